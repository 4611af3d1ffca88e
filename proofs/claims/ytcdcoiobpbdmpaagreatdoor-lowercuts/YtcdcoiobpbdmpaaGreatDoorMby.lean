import Derived.Test.YtcdcoiobpbdmpaaGreatDoorMbv
import Derived.Test.YtcdcoiobpbdmpaaGreatDoorMae
import Derived.Test.YtcdcoiobpbdmpaaGreatDoorMbu
import Derived.Test.YtcdcoiobpbdmpaaGreatDoorMbx
import Derived.Test.YtcdcoiobpbdmpaaGreatDoorMbq
namespace Go.Proofs.YtcdcoiobpbdmpaaGreatDoor
open Go.RowKit
namespace Bg
def okE:Nat→List Sx.Tr→Bool
 |0,_=>false
 |n+1,l=>l.all fun d=>okE n (Sx.eL d)
def okS:Nat→List Sx.Tr→Bool
 |0,_=>false
 |n+1,l=>l.all fun d=>okE n (Sx.sE d) && okS n (Sx.sB d) && okS n (Sx.sO d)
def okG (n:Nat) (l:List Sx.Tr):Bool:=l.all fun g=>okS n (Sx.gB g)
end Bg
theorem Rw.mem {R R':Sx.Tr→List Value→Prop} {l:List Sx.Tr} {cs:List Value} (h:Rw R l cs) (hR: ∀ d c,d ∈ l→R d c→R' d c):Rw R' l cs:=by
 induction l generalizing cs with
 |nil=>exact h
 |cons d r ih=>
  obtain ⟨c1,c2,h1,h2,h3⟩:=h
  exact ⟨c1,c2,h1,hR _ _ (by simp) h2,ih h3 (fun d c hd=>hR d c (by simp [hd]))⟩
theorem Sl.mem {R R':Sx.Tr→List Value→Prop} {w:World} {P:Nat→Prop} {l:List Sx.Tr} {v:Value} (h:Sl R w P l v) (hR: ∀ d c,d ∈ l→R d c→R' d c):Sl R' w P l v:=by
 obtain ⟨a,cap,hv,h⟩:=h
 refine ⟨a,cap,hv,h.imp id ?_⟩
 rintro ⟨b,off,cs,ha,hb,hr,hc⟩
 exact ⟨b,off,cs,ha,hb,hr.mem hR,hc⟩
theorem EL.level {w:World} {P:Nat→Prop}: ∀ (n:Nat) {m:Nat} {l:List Sx.Tr} {v:Value},EL w P m l v→Bg.okE n l=true→EL w P n l v
 |0,_,_,_,_,hk=>by cases hk
 |n+1,0,_,_,h,_=>by cases h
 |n+1,m+1,l,v,h,hk=>by
  obtain ⟨a,cap,hv,h⟩:=h
  refine ⟨a,cap,hv,h.imp id ?_⟩
  rintro ⟨b,off,ha,hb,hc⟩
  refine ⟨b,off,ha,hb,fun i d hd=> ?_⟩
  obtain ⟨op,nm,k,L,u,h1,h2,h3,h4,h5,h6⟩:=hc i d hd
  refine ⟨op,nm,k,L,u,h1,h2,h3,h4,h5,EL.level n h6 ?_⟩
  have:=List.all_eq_true.1 hk d (List.mem_of_getElem? hd)
  rw [h1] at this
  exact this
theorem SL.level {w:World} {P:Nat→Prop}: ∀ (n:Nat) {m:Nat} {l:List Sx.Tr} {v:Value},SL w P m l v→Bg.okS n l=true→SL w P n l v
 |0,_,_,_,_,hk=>by cases hk
 |n+1,0,_,_,h,_=>by cases h
 |n+1,m+1,l,v,h,hk=>by
  rw [SL_succ] at h ⊢
  refine h.mem ?_
  rintro d c hd ⟨D,at',A,B,T,N,E,body,els,uE,uB,uL,rfl,h2,h3,h4,h5⟩
  have h6:=List.all_eq_true.1 hk _ hd
  rw [Bool.and_eq_true,Bool.and_eq_true] at h6
  exact ⟨D,at',A,B,T,N,E,body,els,uE,uB,uL,rfl,h2,EL.level n h3 h6.1.1,SL.level n h4 h6.1.2,SL.level n h5 h6.2⟩
theorem GL.level {w:World} {P:Nat→Prop} (n:Nat) {m:Nat} {l:List Sx.Tr} {v:Value} (h:Sl (RG w P m) w P l v) (hk:Bg.okG n l=true):Sl (RG w P n) w P l v:=by
 refine h.mem ?_
 rintro d c hd ⟨nm,at',ps,body,uP,uB,rfl,h2,h3,h4⟩
 exact ⟨nm,at',ps,body,uP,uB,rfl,h2,h3,SL.level n h4 (List.all_eq_true.1 hk _ hd)⟩
theorem toks_at {T:List Tk.Tok} (h:(T.all fun t=>decide (t.at'≤12000))=true): ∀ (i:Nat) t,T[i]? =some t→t.at'≤12000:=fun i t hi=>by
 simpa using List.all_eq_true.1 h t (List.mem_of_getElem? hi)
theorem parse_at (K:List Nat) (f n:Nat) (hBl:BlC K f) (s:ByteArray) {l:List Sx.Tr} (hs:s.size≤12000) (h0:(Tk.scan s.data.toList).2.1=0) (hl:(Tk.scan s.data.toList).1.length≤12000) (hat:((Tk.scan s.data.toList).1.all fun t=>decide (t.at'≤12000))=true) (hx:Bg.prog K s.size (Tk.scan s.data.toList).1 f=some l) (hk:Bg.okG n l=true) {w:World} (hw:WTab w):
  Calls Tryz.prog 11 #[.string s] w fun e w'=> ∃ a cap,e= .returned (.tuple #[.agg #[.slice a l.length cap],.agg #[.int .i64 0,.int .i64 0]])∧Sl (RG w' (fun b=>b<w'.heap.size) n) w' (fun b=>b<w'.heap.size) l (.slice a l.length cap)∧Kp [] w w':=by
 refine (parse_ok K f hBl hw hs (pp:=(Tk.scan s.data.toList).2.2) (by rw [←h0]) hl (toks_at hat) hx).mono ?_
 rintro e w' ⟨m,a,cap,rfl,hS,hk'⟩
 refine ⟨a,cap,rfl,?_,hk'⟩
 exact (GL.level n hS hk).base (fun b hb _=>hb) (fun d c h=>⟨h.base (fun b hb _=>hb),by obtain ⟨_,_,_,_,_,_,_,rfl,_⟩:=h;simp⟩)
end Go.Proofs.YtcdcoiobpbdmpaaGreatDoor
namespace Go.Proofs.YtcdcoiobpbdmpaaGreatDoor
open Go.RowKit
def lbT:ByteArray:=⟨#[115,116,97,103,101,32,109,97,105,110,40,105,110,32,114,101,99,118,32,105,110,116,41,32,123,32,102,111,114,32,120,32,102,114,111,109,32,105,110,32,123,32,101,109,105,116,32,120,59,32,125,32,100,114,97,105,110,32,105,110,59,32,125]⟩
def lbL:List Sx.Tr:=[Sx.tG [109,97,105,110] 0 [Sx.tP [105,110] [114,105]] [
 Sx.tS 12 26 [120] [105,110] [] 0 [] [Sx.tS 3 42 [] [] [] 0 [Sx.tE 2 [120] 0 []] [] []] [],Sx.tS 9 52 [105,110] [] [] 0 [] [] []]]
def lbR:List (List Kn.Nv):=[[([105,110],[114,105]),([120],[105])]]
theorem lb_scan:(Tk.scan lbT.data.toList).2.1=0:=by kernel_rfl
theorem lb_len:decide ((Tk.scan lbT.data.toList).1.length≤12000)=true:=by kernel_rfl
theorem lb_at:((Tk.scan lbT.data.toList).1.all fun t=>decide (t.at'≤12000))=true:=by kernel_rfl
theorem lb_read:Bg.prog [3,9,12] lbT.size (Tk.scan lbT.data.toList).1 5=some lbL:=by kernel_rfl
theorem lb_ok:Bg.okG 8 lbL=true:=by kernel_rfl
theorem lb_vars:Kn.vars 8 lbL= .inl lbR:=by kernel_rfl
theorem lb_short:(lbL.all fun g=>decide ((Sx.gB g).length≤1000000))=true:=by kernel_rfl
def lbPR:List Cd.Pr:=(Lw.lowerGo 7 [] lbL (Lw.named lbR)).getD []
theorem lb_low:(Lw.lowerGo 7 [] lbL (Lw.named lbR)).isSome=true:=by kernel_rfl
theorem lb_one:lbPR.length=1:=by kernel_rfl
theorem lb_some:Lw.lowerGo 7 [] lbL (Lw.named lbR)=some lbPR:=by
 have h:=lb_low
 unfold lbPR
 cases hx:Lw.lowerGo 7 [] lbL (Lw.named lbR) with
 |none=>rw [hx] at h;cases h
 |some y=>rfl
def lbP:Cd.Pr:=lbPR.headD ⟨⟨#[]⟩,[],0,[],[]⟩
theorem lb_is:lbPR=[lbP]:=by
 have h:=lb_one
 unfold lbP
 match lbPR,h with
 |[x],_=>rfl
theorem lb_ins:lbP.ins.length=6:=by kernel_rfl
theorem lb_to:(lbP.ins[0]?.map (·.to))=some 3:=by kernel_rfl
end Go.Proofs.YtcdcoiobpbdmpaaGreatDoor
namespace Go.Proofs.YtcdcoiobpbdmpaaGreatDoor
open Go.RowKit
def CoOK (l:List Cd.Pr):Prop:= ∀ p ∈ l,PrOK p∧ ∀ x ∈ p.ins,InOK x
theorem Ck.first_at {l ab:List Cd.Pr} {p:Cd.Pr} {k:Nat} (hx:l[k]? =some p) (hk:ab=l.take k):Ck.first ab (l.drop k)=if (Ck.fault ab p).1 ≠ 0 then some ((Ck.fault ab p).1,(Ck.fault ab p).2+(k:Int) * 10000) else Ck.first (l.take (k+1)) (l.drop (k+1)):=by
 have hlt:=(List.getElem?_eq_some_iff.1 hx).1
 have hl:ab.length=k:=by rw [hk,List.length_take];omega
 rw [List.drop_eq_getElem_cons hlt]
 have e:l[k]=p:=by
  rw [List.getElem?_eq_getElem hlt,Option.some.injEq] at hx
  exact hx
 rw [e]
 have e2:ab++[p]=l.take (k+1):=by rw [hk,←e,List.take_append_getElem]
 show (if (Ck.fault ab p).1 ≠ 0 then some ((Ck.fault ab p).1,(Ck.fault ab p).2+(ab.length:Int) * 10000) else Ck.first (ab++[p]) (l.drop (k+1)))=_
 rw [hl,e2]
theorem b_two (w:World) (o1 o2:Obj):Below w.heap.size w ((w.alloc o1).alloc o2):=((Below.refl _ _).alloc (Nat.le_refl _) _).alloc (by simp) _
theorem Ck.params_of {ab:List Cd.Pr} {p:Cd.Pr} (h:(Ck.fault ab p).1=0):p.params≤(p.vars.length:Int)∧Ck.frame p=0:=by
 have h0:Ck.frame p=0:=by
  by_cases e:Ck.frame p=0
  ·exact e
  ·unfold Ck.fault at h
   rw [if_pos e] at h
   exact h
 refine ⟨?_,h0⟩
 unfold Ck.frame at h0
 split at h0
 ·cases h0
 ·split at h0
  ·cases h0
  ·omega
theorem Ck.bad_le {ab:List Cd.Pr} {p:Cd.Pr}: ∀ {l:List Cd.In} {k i:Nat},Ck.bad ab p k l=some i→i≤k+l.length
 |[],_,_,h=>by cases h
 |x::r,k,i,h=>by
  unfold Ck.bad at h
  split at h
  ·have:=Ck.bad_le h
   rw [List.length_cons]
   omega
  ·cases h
   omega
theorem Ck.fault_le (ab:List Cd.Pr) (p:Cd.Pr) (h:p.ins.length≤1000000): -1≤(Ck.fault ab p).2∧(Ck.fault ab p).2≤1000000:=by
 unfold Ck.fault
 split
 ·exact ⟨by simp,by simp⟩
 ·split
  ·rename_i i hi
   have:=Ck.bad_le hi
   exact ⟨by dsimp only;omega,by dsimp only;omega⟩
  ·split
   ·exact ⟨by dsimp only;omega,by dsimp only;omega⟩
   ·exact ⟨by simp,by simp⟩
theorem FBc.put {b:Nat} {w:World} {x y:Int} (h:FBc b w x y) (x' y':Int):FBc b ((w.setCell ⟨b,0,none⟩ (.int .i64 x')).setCell ⟨b,1,none⟩ (.int .i64 y')) x' y':=by
 obtain ⟨c0,c1,f0,f1⟩:=h
 constructor<;> simp [go_sem,c0,c1,f0,f1]
set_option maxRecDepth 100000 in
set_option maxHeartbeats 4000000 in
theorem ckCheck_any (l:List Cd.Pr) (m:Int) (ua:Option Addr) (uc:Nat) (w:World) (hu:CoR w (.slice ua l.length uc) l) (hO:CoOK l) (hcap:l.length≤uc+1):
  Calls Tryz.prog 8 #[.agg #[.slice ua l.length uc,.int .i64 m]] w fun e w'=>e= .returned (.agg #[.int .i64 (Ck.check l m).1,.int .i64 (Ck.check l m).2])∧Below w.heap.size w w':=by
 have hb1:Below w.heap.size w (w.alloc (.cells #[.slice ua l.length uc,.int .i64 m] 29)):=(Below.refl _ _).alloc (Nat.le_refl _) _
 have hb2:=(Below.refl (w.alloc (.cells #[.slice ua l.length uc,.int .i64 m] 29)).heap.size (w.alloc (.cells #[.slice ua l.length uc,.int .i64 m] 29))).alloc (Nat.le_refl _) (.cells #[.int .i64 0,.int .i64 0] 31)
 have HB:=hide (btrans hb1 hb2)
 have hf:=FBc.new (w.alloc (.cells #[.slice ua l.length uc,.int .i64 m] 29)) 0 0 31
 rw [show (w.alloc (.cells #[.slice ua l.length uc,.int .i64 m] 29)).heap.size=w.heap.size+1 by simp] at hf
 have c0:=bsome hb2 (agg_two w (.slice ua l.length uc) (.int .i64 m) 29).1
 have c1:=bsome hb2 (agg_two w (.slice ua l.length uc) (.int .i64 m) 29).2
 have HF:=hide hf
 obtain ⟨s0,s1,z0,z1⟩:=hf
 have HU:=hide hu
 have hsz: ¬ w.heap.size+1=w.heap.size:=by omega
 clear hb1 hb2
 by_cases g0:l=[]
 ·have HE:Hid (Ck.check l m=(10,-1)):=hide (by unfold Ck.check;rw [if_pos g0])
  have d0:((l.length:Int) == 0)=true:=by rw [g0];rfl
  clear hu hO
  subst g0
  go_enter Tryz.func8,Tryz.ntmps8
  go_wp2
  refine bodyPost_ret (v:= .agg #[.int .i64 10,.int .i64 (-1)]) (by simp [results,Tryz.results8,go_sem]) rfl ⟨by rw [HE.out],b_two _ _ _⟩
 have hpos:=List.length_pos_iff.2 g0
 have d0:((l.length:Int) == 0)=false:=by simp;omega
 have d0n:(l.length == 0)=false:=by simp;omega
 by_cases g1:10<l.length
 ·have HE:Hid (Ck.check l m=(8,-1)):=hide (by unfold Ck.check;rw [if_neg g0,if_pos g1])
  have d1:decide ((10:Int)<(l.length:Int))=true:=by simp;omega
  clear hu hO g0 g1
  go_enter Tryz.func8,Tryz.ntmps8
  go_wp2
  refine bodyPost_ret (v:= .agg #[.int .i64 8,.int .i64 (-1)]) (by simp [results,Tryz.results8,go_sem]) rfl ⟨by rw [HE.out],b_two _ _ _⟩
 have hl10:l.length≤10:=by omega
 have d1:decide ((10:Int)<(l.length:Int))=false:=by simp;omega
 have HE:Hid (Ck.check l m=match Ck.first [] l with
  |some f=>f
  |none=>if Ck.mainOK l m then (0,0) else (13,-1)):=hide (by unfold Ck.check;rw [if_neg g0,if_neg g1];rfl)
 obtain ⟨ua',uc',e1,hr⟩:=hu
 obtain ⟨rfl,rfl⟩:ua=ua'∧uc=uc':=by simpa using e1
 obtain ⟨g,o,rfl,hc⟩:=hr g0
 have HC:=hide hc
 have HO:=hide hO
 clear e1 hr hc g0 g1 hO
 go_enter Tryz.func8,Tryz.ntmps8
 go_wp2
 generalize World.alloc (World.alloc _ _) _=w1 at *
 go_loopw [21] (fun iv wr=> ∃ k:Nat,k≤l.length∧iv= .int .i64 k∧Hid (Below w1.heap.size w1 wr∧Ck.first [] l=Ck.first (l.take k) (l.drop k)∧ ∀ st ∈ l.take k,st.params≤(st.vars.length:Int)∧Ck.frame st=0)) (fun iv _=>l.length - (intOf iv).toNat)
 case atStart=>exact ⟨0,Nat.zero_le _,rfl,hide ⟨Below.refl _ _,rfl,by simp⟩⟩
 case round=>
  obtain ⟨k,hk,rfl,HI⟩:=hrel
  by_cases hlt:k<l.length
  ·obtain ⟨p,hx⟩: ∃ p,l[k]? =some p:=⟨_,List.getElem?_eq_getElem hlt⟩
   obtain ⟨q,hq,hpc⟩:=HC.out k p hx
   have hbw:=btrans HB.out HI.out.1
   have y0:wr.cell? ⟨g,o+k * 5,none⟩=some (.string p.name):=bsome hbw (hq 0 _ rfl)
   have y1:=bsome hbw (hq 1 _ rfl)
   have y2:=bsome hbw (hq 2 _ rfl)
   have y3:=bsome hbw (hq 3 _ rfl)
   have y4:=bsome hbw (hq 4 _ rfl)
   have HOp:=HO.out p (List.mem_of_getElem? hx)
   have c0':=bsome HI.out.1 c0
   have hcl:(l.take k).length=k:=by rw [List.length_take];omega
   have HUk:Hid (∀ w',Below w.heap.size w w'→CoR w' (.slice (some ⟨g,o,none⟩) (l.take k).length uc) (l.take k)):=hide (fun w' hb=>⟨_,_,rfl,fun _=>⟨g,o,rfl,fun j st hj=>by
    have hjk:j<k:=by
     have:=(List.getElem?_eq_some_iff.1 hj).1
     omega
    rw [List.getElem?_take,if_pos hjk] at hj
    obtain ⟨q,h1,h2⟩:=HC.out j st hj
    exact ⟨q,fun i u hu=>bsome hb (h1 i u hu),h2.keep hb⟩⟩⟩)
   have CF:Hid (∀ w',Below w.heap.size w w'→Calls Tryz.prog 15 #[.agg (q.ck p (some ⟨g,o,none⟩) k uc)] w' fun e w''=>e= .returned (.agg #[.int .i64 (Ck.fault (l.take k) p).1,.int .i64 (Ck.fault (l.take k) p).2])∧Below w'.heap.size w' w''):=hide (fun w' hb=>by
    have:=ckFault_any q p (l.take k) (some ⟨g,o,none⟩) uc w' (hpc.keep hb) (HUk.out w' hb) (fun st hs=>(HI.out.2.2 st hs).1) HOp.1 HOp.2
    rwa [hcl] at this)
   have HN:Hid (Ck.first [] l=if (Ck.fault (l.take k) p).1 ≠ 0 then some ((Ck.fault (l.take k) p).1,(Ck.fault (l.take k) p).2+(k:Int) * 10000) else Ck.first (l.take (k+1)) (l.drop (k+1))):=hide (by rw [HI.out.2.1,Ck.first_at hx rfl])
   have HM:Hid ((Ck.fault (l.take k) p).1=0→ ∀ st ∈ l.take (k+1),st.params≤(st.vars.length:Int)∧Ck.frame st=0):=hide (fun h0 st hs=>by
    rw [←List.take_append_getElem hlt,List.mem_append,List.mem_singleton] at hs
    rcases hs with hs|hs
    ·exact HI.out.2.2 st hs
    ·rw [List.getElem?_eq_getElem hlt,Option.some.injEq] at hx
     rw [hs,hx]
     exact Ck.params_of h0)
   have hba:=(Below.refl wr.heap.size wr).alloc (Nat.le_refl _) (.cells (q.cells p) 39)
   have c0:=bsome hba c0'
   have HBA:=hide (btrans HI.out.1 hba)
   obtain ⟨p0,p1,p2,p3,p4⟩:(wr.alloc (.cells (q.cells p) 39)).cell? ⟨wr.heap.size,0,none⟩=some (.string p.name)∧(wr.alloc (.cells (q.cells p) 39)).cell? ⟨wr.heap.size,1,none⟩=some (.slice q.av p.vars.length q.cv)∧(wr.alloc (.cells (q.cells p) 39)).cell? ⟨wr.heap.size,2,none⟩=some (.int .i64 p.params)∧(wr.alloc (.cells (q.cells p) 39)).cell? ⟨wr.heap.size,3,none⟩=some (.slice q.ab p.blocks.length q.cb)∧(wr.alloc (.cells (q.cells p) 39)).cell? ⟨wr.heap.size,4,none⟩=some (.slice q.ai p.ins.length q.ci):=
    ⟨cells_at wr q p 39 0 _ rfl,cells_at wr q p 39 1 _ rfl,cells_at wr q p 39 2 _ rfl,cells_at wr q p 39 3 _ rfl,cells_at wr q p 39 4 _ rfl⟩
   have hku:k≤uc:=by omega
   have hfl:=Ck.fault_le (l.take k) p HOp.1.2.2.2
   generalize Ck.fault (l.take k) p=FA at *
   obtain ⟨fc,fa⟩:=FA
   dsimp only at *
   clear hx hq hpc hbw HI HOp hcl HUk hba c0'
   unfold PV.cells PV.ck at *
   go_wp2
   generalize wr.alloc _=wa at *
   generalize wr.heap.size=bw at *
   have KA1:Hid (Below wa.heap.size wa wa.drew):=hide (below_drewN (Below.refl _ _) 1)
   have KA2:Hid (Below wa.heap.size wa (wa.drew.alloc (.cells #[.int .i64 0,.int .i64 0] 31))):=hide (btrans KA1.out ((Below.refl _ _).alloc (Nat.le_refl _) _))
   have KB:Hid (Below w.heap.size w wa):=hide (btrans HB.out HBA.out)
   have hl1:=World.block_lt_of_cell? _ _ p0
   have hl2:=World.block_lt_of_cell? _ _ c0
   dsimp only at hl1 hl2
   have HFN:Hid (∀ w5,Below (wa.drew.alloc (.cells #[.int .i64 0,.int .i64 0] 31)).heap.size (wa.drew.alloc (.cells #[.int .i64 0,.int .i64 0] 31)) w5→FBc wa.heap.size w5 0 0):=hide (fun w5 hb=>(FBc.new wa.drew 0 0 31).keep hb)
   have n1: ¬ wa.heap.size=bw:=by omega
   have n2: ¬ bw=wa.heap.size:=by omega
   have n3: ¬ wa.heap.size=w.heap.size:=by omega
   have n4: ¬ w.heap.size=wa.heap.size:=by omega
   go_region_held_law (fun w'=>w'.cell? ⟨bw,0,none⟩=some (.string p.name)∧w'.cell? ⟨bw,1,none⟩=some (.slice q.av p.vars.length q.cv)∧w'.cell? ⟨bw,2,none⟩=some (.int .i64 p.params)∧w'.cell? ⟨bw,3,none⟩=some (.slice q.ab p.blocks.length q.cb)∧w'.cell? ⟨bw,4,none⟩=some (.slice q.ai p.ins.length q.ci)∧w'.cell? ⟨w.heap.size,0,none⟩=some (.slice (some ⟨g,o,none⟩) l.length uc)) (first|exact ⟨by assumption,by assumption,by assumption,by assumption,by assumption,by assumption⟩|go_keep) ((go_at_call 15;(first|refine (CF.out _ (by exact btrans KB.out KA1.out)).mono ?_|refine (CF.out _ (by exact btrans KB.out KA2.out)).mono ?_);rintro e w5 ⟨rfl,hb5⟩;(first|have kc:=btrans KA1.out hb5|have kc:=btrans KA2.out hb5);(try (have hq:=HFN.out w5 hb5;have qb0:=hq.c0;have qb1:=hq.c1;have qb2:=hq.f0;have qb3:=hq.f1;have HQ:=hide hq;clear hq));have r0:=bsome kc p0;have r1:=bsome kc p1;have r2:=bsome kc p2;have r3:=bsome kc p3;have r4:=bsome kc p4;have r5:=bsome kc c0;have KC:=hide kc;clear kc hb5))
   ·have FBW:=hide (FBc.new w5 fc fa 31)
    have KW:=hide (btrans KC.out ((Below.refl _ _).alloc (Nat.le_refl _) (.cells #[.int .i64 fc,.int .i64 fa] 31)))
    have hbl:w.heap.size≤w5.heap.size:=(btrans KB.out KC.out).size
    have hbs: ¬ w5.heap.size=w.heap.size+1:=by
     have h1:=World.block_lt_of_cell? _ _ HF.out.c0
     have h2:=(btrans HBA.out KC.out).size
     dsimp only at h1
     omega
    have hbs': ¬ w.heap.size+1=w5.heap.size:=fun e=>hbs e.symm
    clear KC r0 r1 r2 r3 r4 r5
    generalize w5.alloc _=W6 at *
    generalize w5.heap.size=bb at *
    obtain ⟨a0,a1,a2,a3⟩:=FBW.out
    obtain ⟨s0,s1,z0,z1⟩:=HF.out.keep (btrans HBA.out KW.out)
    have HB6:=hide (btrans KB.out KW.out)
    by_cases e0:fc=0
    ·subst e0
     go_wp2
     go_roundw
     case rel=>exact ⟨k+1,by omega,by go_num,hide ⟨btrans HBA.out KW.out,by rw [HN.out];rfl,HM.out rfl⟩⟩
     case measure=>simp [intOf];omega
    ·have f0:(fc !=0)=true:=by simpa using e0
     have f1:(fc == 0)=false:=by simpa using e0
     have HE3:Hid (Ck.check l m=(fc,fa+(k:Int) * 10000)):=hide (by rw [HE.out,HN.out,if_pos e0])
     clear e0
     go_wp2
     refine bodyPost_ret (v:= .agg #[.int .i64 fc,.int .i64 (fa+(k:Int) * 10000)]) (by simp [results,Tryz.results8,go_sem,s0,s1]) rfl ⟨by rw [HE3.out],bset (bset (bset HB6.out hbl _) (Nat.le_succ _) _) (Nat.le_succ _) _⟩
   ·have FBW:=hide (HQ.out.put fc fa)
    have KW:=hide (bset (bset KC.out (Nat.le_refl _) (o:=0) (.int .i64 fc)) (Nat.le_refl _) (o:=1) (.int .i64 fa))
    have hbl:w.heap.size≤wa.heap.size:=KB.out.size
    have hbs: ¬ wa.heap.size=w.heap.size+1:=by
     have h1:=World.block_lt_of_cell? _ _ HF.out.c0
     have h2:=HBA.out.size
     dsimp only at h1
     omega
    have hbs': ¬ w.heap.size+1=wa.heap.size:=fun e=>hbs e.symm
    clear KC r0 r1 r2 r3 r4 r5 qb0 qb1 qb2 qb3 HQ
    generalize World.setCell (World.setCell _ _ _) _ _=W6 at *
    obtain ⟨a0,a1,a2,a3⟩:=FBW.out
    obtain ⟨s0,s1,z0,z1⟩:=HF.out.keep (btrans HBA.out KW.out)
    have HB6:=hide (btrans KB.out KW.out)
    by_cases e0:fc=0
    ·subst e0
     go_wp2
     go_roundw
     case rel=>exact ⟨k+1,by omega,by go_num,hide ⟨btrans HBA.out KW.out,by rw [HN.out];rfl,HM.out rfl⟩⟩
     case measure=>simp [intOf];omega
    ·have f0:(fc !=0)=true:=by simpa using e0
     have f1:(fc == 0)=false:=by simpa using e0
     have HE3:Hid (Ck.check l m=(fc,fa+(k:Int) * 10000)):=hide (by rw [HE.out,HN.out,if_pos e0])
     clear e0
     go_wp2
     refine bodyPost_ret (v:= .agg #[.int .i64 fc,.int .i64 (fa+(k:Int) * 10000)]) (by simp [results,Tryz.results8,go_sem,s0,s1]) rfl ⟨by rw [HE3.out],bset (bset (bset HB6.out hbl _) (Nat.le_succ _) _) (Nat.le_succ _) _⟩
  ·obtain rfl:k=l.length:=by omega
   have HE2:Hid (Ck.check l m=if Ck.mainOK l m then (0,0) else (13,-1)):=hide (by
    rw [HE.out,HI.out.2.1,List.drop_length]
    rfl)
   have HP:Hid (∀ st ∈ l,st.params≤(st.vars.length:Int)):=hide (fun st hs=>(HI.out.2.2 st (by rw [List.take_length];exact hs)).1)
   have c0:=bsome HI.out.1 c0
   have c1:=bsome HI.out.1 c1
   obtain ⟨s0,s1,z0,z1⟩:=HF.out.keep HI.out.1
   have HB6:=hide (btrans HB.out HI.out.1)
   have HBI:=hide HI.out.1
   clear HI
   by_cases g2:0≤m
   ·have d2:decide (m<0)=false:=by simp;omega
    by_cases g3:m<(l.length:Int)
    ·obtain ⟨mm,rfl⟩: ∃ mm:Nat,m=(mm:Int):=⟨m.toNat,by omega⟩
     have d3:decide ((l.length:Int)≤(mm:Int))=false:=by simp;omega
     have d3n:decide (l.length≤mm)=false:=by simp;omega
     have hml:mm<l.length:=by omega
     obtain ⟨p,hx⟩: ∃ p,l[mm]? =some p:=⟨_,List.getElem?_eq_getElem hml⟩
     obtain ⟨q,hq,hpc⟩:=HC.out mm p hx
     have y0:wr.cell? ⟨g,o+mm * 5,none⟩=some (.string p.name):=bsome HB6.out (hq 0 _ rfl)
     have y1:=bsome HB6.out (hq 1 _ rfl)
     have y2:=bsome HB6.out (hq 2 _ rfl)
     have y3:=bsome HB6.out (hq 3 _ rfl)
     have y4:=bsome HB6.out (hq 4 _ rfl)
     have CG:=hide (ckBegins_any q p wr (hpc.keep HB6.out) (fun e e2=>by
      have:=HP.out p (List.mem_of_getElem? hx)
      rw [e,e2] at this
      simp at this))
     have HE3:Hid (Ck.check l (mm:Int)=if Ck.begins p then (0,0) else (13,-1)):=hide (by
      rw [HE2.out]
      unfold Ck.mainOK
      rw [decide_eq_true g2,Int.toNat_natCast,hx]
      rfl)
     generalize Ck.begins p=BG at *
     clear hx hq hpc HE2 g2 g3
     unfold PV.cells at *
     cases BG with
     |true=>
      go_wp2_with fail
      refine CG.out.mono ?_
      rintro e w4 ⟨rfl,hb4⟩
      obtain ⟨s0,s1,z0,z1⟩:=HF.out.keep (btrans HBI.out hb4)
      have HB6:=hide (btrans HB6.out hb4)
      clear hb4
      go_wp2
      refine bodyPost_ret (v:= .agg #[.int .i64 0,.int .i64 0]) (by simp [results,Tryz.results8,go_sem,s0,s1]) rfl ⟨by rw [HE3.out];rfl,bset (bset HB6.out (Nat.le_succ _) _) (Nat.le_succ _) _⟩
     |false=>
      go_wp2_with fail
      refine CG.out.mono ?_
      rintro e w4 ⟨rfl,hb4⟩
      obtain ⟨s0,s1,z0,z1⟩:=HF.out.keep (btrans HBI.out hb4)
      have HB6:=hide (btrans HB6.out hb4)
      clear hb4
      go_wp2
      refine bodyPost_ret (v:= .agg #[.int .i64 13,.int .i64 (-1)]) (by simp [results,Tryz.results8,go_sem,s0,s1]) rfl ⟨by rw [HE3.out];rfl,bset (bset HB6.out (Nat.le_succ _) _) (Nat.le_succ _) _⟩
    ·have d3:decide ((l.length:Int)≤m)=true:=by simp;omega
     have HE3:Hid (Ck.check l m=(13,-1)):=hide (by
      rw [HE2.out]
      unfold Ck.mainOK
      rw [decide_eq_true g2,List.getElem?_eq_none (by omega)]
      rfl)
     clear g2 g3
     go_wp2
     refine bodyPost_ret (v:= .agg #[.int .i64 13,.int .i64 (-1)]) (by simp [results,Tryz.results8,go_sem,s0,s1]) rfl ⟨by rw [HE3.out],bset (bset HB6.out (Nat.le_succ _) _) (Nat.le_succ _) _⟩
   ·have d2:decide (m<0)=true:=by simp;omega
    have HE3:Hid (Ck.check l m=(13,-1)):=hide (by
     rw [HE2.out]
     unfold Ck.mainOK
     rw [decide_eq_false g2]
     rfl)
    clear g2
    go_wp2
    refine bodyPost_ret (v:= .agg #[.int .i64 13,.int .i64 (-1)]) (by simp [results,Tryz.results8,go_sem,s0,s1]) rfl ⟨by rw [HE3.out],bset (bset HB6.out (Nat.le_succ _) _) (Nat.le_succ _) _⟩
end Go.Proofs.YtcdcoiobpbdmpaaGreatDoor
namespace Go.Proofs.YtcdcoiobpbdmpaaGreatDoor
open Go.RowKit
theorem lb_blocks:BlC [3,9,12] 5:=blocks_ok _ (fun f D hD hB=>by
 simp only [List.mem_cons,List.mem_nil_iff,or_false] at hD
 rcases hD with rfl|rfl|rfl
 ·exact ⟨by decide,fun _=>plain_3,fun h=>by omega⟩
 ·exact ⟨by decide,fun _=>plain_7 9 (.inr rfl),fun h=>by omega⟩
 ·exact ⟨by decide,fun h=>by omega,fun _=>⟨by decide,nest_ab _ f 12 (.inr rfl) hB⟩⟩) 5
theorem lb_field (x y:Value) (w:World):(Instr.field 31 (.agg #[x,y]) 0).run Tryz.prog w= .ok x w:=by kernel_rfl
theorem lb_right:Ck.check [lbP] 0=(0,0):=by kernel_rfl
theorem lb_types:(lbP.vars.all fun v=>decide (v.2.size≤100))=true:=by kernel_rfl
theorem lb_lens:decide (lbP.vars.length≤1000∧lbP.blocks.length≤1000∧lbP.ins.length≤1000)=true:=by kernel_rfl
theorem lb_inss:(lbP.ins.all fun x=>decide (x.t.size≤1000∧x.e.length≤1000∧x.args.length≤1000) && x.args.all fun y=>decide (y.1.length≤1000))=true:=by kernel_rfl
theorem lb_okC:CoOK [lbP]:=fun p hp=>by
 rw [List.mem_singleton] at hp
 subst hp
 have hl:=of_decide_eq_true lb_lens
 refine ⟨⟨fun v hv=>of_decide_eq_true (List.all_eq_true.1 lb_types v hv),by omega,by omega,by omega⟩,fun x hx=> ?_⟩
 have h:=List.all_eq_true.1 lb_inss x hx
 rw [Bool.and_eq_true,decide_eq_true_eq] at h
 exact ⟨h.1.1,by omega,by omega,fun y hy=>by
  have:=of_decide_eq_true (List.all_eq_true.1 h.2 y hy)
  omega⟩
set_option maxRecDepth 100000 in
set_option maxHeartbeats 2000000 in
theorem lbegun_any (w:World) (hT:Tb w):Calls Tryz.prog 5 #[] w fun e w'=>e= .returned (.bool true)∧Below w.heap.size w w':=by
 have CP:=hide (fun (w:World) (h:Tb w)=>parse_at [3,9,12] 5 8 lb_blocks lbT (by decide) lb_scan (of_decide_eq_true lb_len) lb_at lb_read lb_ok h.words)
 have CL:=hide (fun (w:World) (h:Tb w) (a:Option Addr) (cap:Nat) (hL:Sl (RG w (fun b=>b<w.heap.size) 8) w (fun b=>b<w.heap.size) lbL (.slice a lbL.length cap))=>lower_gen 7 h (fun b=>b<w.heap.size) (fun _ h=>h) lbL a cap hL (nG_of (by kernel_rfl)) (fun g hg=>of_decide_eq_true (List.all_eq_true.1 lb_short g hg)) lbR lb_vars rfl (by decide) (by decide) lbPR lb_some)
 have HT:=hide hT
 rw [lb_is] at CL
 clear hT
 go_enter Tryz.func5,Tryz.ntmps5
 go_wp2_with fail
 refine (CP.out _ HT.out).mono ?_
 rintro e w1 ⟨a,cap,rfl,hSl,hk⟩
 have K1:Hid (Kp [] w w1):=hide hk
 have HS1:=hide hSl
 clear hSl hk
 have K2:Hid (Kp [] w1 ((w1.alloc (.cells #[.slice a lbL.length cap] 24)).alloc (.cells #[.int .i64 0,.int .i64 0] 31))):=hide (((Kp.refl _ _).alloc _).alloc _)
 have HS2:Hid (Sl (RG ((w1.alloc (.cells #[.slice a lbL.length cap] 24)).alloc (.cells #[.int .i64 0,.int .i64 0] 31)) (fun b=>b<((w1.alloc (.cells #[.slice a lbL.length cap] 24)).alloc (.cells #[.int .i64 0,.int .i64 0] 31)).heap.size) 8) ((w1.alloc (.cells #[.slice a lbL.length cap] 24)).alloc (.cells #[.int .i64 0,.int .i64 0] 31)) (fun b=>b<((w1.alloc (.cells #[.slice a lbL.length cap] 24)).alloc (.cells #[.int .i64 0,.int .i64 0] 31)).heap.size) lbL (.slice a lbL.length cap)):=
  hide ((HS1.out.keep K2.out (by simp) (fun d c h=>h.keep K2.out (by simp))).base (fun b _ hb=>Nat.lt_of_lt_of_le hb K2.out.size) (fun d c h=>⟨h.base (fun b _ hb=>Nat.lt_of_lt_of_le hb K2.out.size),by obtain ⟨_,_,_,_,_,_,_,rfl,_⟩:=h;simp⟩))
 go_wp2_with fail
 refine (CL.out _ ((HT.out.kp K1.out).kp K2.out) a cap HS2.out).mono ?_
 rintro e w2 ⟨ap,cp,rfl,hco,hb2,-⟩
 have hco':=hco
 obtain ⟨a2,c2,e2,h2⟩:=hco'
 obtain ⟨rfl,-⟩:ap=a2∧cp=c2:=by simpa using e2
 obtain ⟨g,o,rfl,h3⟩:=h2 (by simp)
 obtain ⟨q,h4,hpc⟩:=h3 0 lbP rfl
 rw [Nat.zero_mul,Nat.add_zero] at h4
 have hcoR:=hide (show CoR w2 (.slice (some ⟨g,o,none⟩) 1 cp) [lbP] from hco)
 have x4:w2.cell? ⟨g,o+4,none⟩=some (.slice q.ai lbP.ins.length q.ci):=h4 4 _ rfl
 obtain ⟨ia,ic,e4,hin⟩:=hpc.ins
 obtain ⟨rfl,rfl⟩:q.ai=ia∧q.ci=ic:=by simpa using e4
 have hx0: ∃ x,lbP.ins[0]? =some x∧x.to=3:=by
  have h:=lb_to
  cases hh:lbP.ins[0]? with
  |none=>rw [hh] at h;cases h
  |some x=>rw [hh] at h;exact ⟨x,rfl,by simpa using h⟩
 obtain ⟨x,hx,hto⟩:=hx0
 obtain ⟨gi,oi,hgi,hin2⟩:=hin (List.ne_nil_of_mem (List.mem_of_getElem? hx))
 obtain ⟨ae,ce,aa,ca,hic⟩:=hin2 0 x hx
 have x5:=hic.c4
 rw [hto,Nat.zero_mul,Nat.add_zero] at x5
 rw [hgi,lb_ins] at x4
 have B2:Hid (Below w.heap.size w w2):=hide ((K1.out.trans K2.out).below.trans (hb2.mono (by have:=K1.out.size;simp;omega)))
 have hml:Lw.mainI 0 0 lbL=0:=by kernel_rfl
 rw [hml]
 clear hpc h2 h3 h4 e2 hb2 HS1 HS2 hin hin2 hic e4 hx hto hgi hco
 have B3:Hid (Below w.heap.size w ((w2.alloc (.cells #[.slice (some ⟨g,o,none⟩) 1 cp,.int .i64 0] 29)).alloc (.cells #[.int .i64 0,.int .i64 0] 31))):=hide ((B2.out.alloc (by have:=B2.out.size;omega) _).alloc (by have:=B2.out.size;simp;omega) _)
 have hb3:Below w2.heap.size w2 ((w2.alloc (.cells #[.slice (some ⟨g,o,none⟩) 1 cp,.int .i64 0] 29)).alloc (.cells #[.int .i64 0,.int .i64 0] 31)):=((Below.refl _ _).alloc (Nat.le_refl _) _).alloc (by simp) _
 have CK:=hide (ckCheck_any [lbP] 0 (some ⟨g,o,none⟩) cp _ (hcoR.out.keep hb3) lb_okC (by simp))
 rw [lb_right] at CK
 have y4:=bsome hb3 x4
 have y5:=bsome hb3 x5
 clear hb3 hcoR
 go_wp2_with fail
 refine CK.out.mono ?_
 rintro e w4 ⟨rfl,hb4⟩
 have B4:=hide (B3.out.trans (hb4.mono B3.out.size))
 have y4:=bsome hb4 y4
 have y5:=bsome hb4 y5
 clear hb4
 have hfd:=lb_field
 go_wp2_with fail
 go_ret
 exact ⟨rfl,B4.out⟩
end Go.Proofs.YtcdcoiobpbdmpaaGreatDoor
