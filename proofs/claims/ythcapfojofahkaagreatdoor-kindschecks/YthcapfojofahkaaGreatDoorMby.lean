import Derived.Test.YthcapfojofahkaaGreatDoorMbu
import Derived.Test.YthcapfojofahkaaGreatDoorMbk
import Derived.BigQuiet
import Derived.Test.YthcapfojofahkaaGreatDoorMbr
import Derived.Test.YthcapfojofahkaaGreatDoorMbx
import Derived.Test.YthcapfojofahkaaGreatDoorMbs
import Derived.Test.YthcapfojofahkaaGreatDoorMbt
import Derived.BigRegion
namespace Go.Proofs.YthcapfojofahkaaGreatDoor
open Go.RowKit
theorem lower_K {N K:Nat} {l:List Sx.Tr} (hs:Sm N l) (hg: ∀ (i:Nat) d,l[i]? =some d→Gnm N d) (hw8:Sx.wG N l≤8000) (h1:8000<K) (h2:K≤N) (h3:K≤1000002):
  Nm K l∧ ∀ (w':World) (P':Nat→Prop) (v':Value),Sl (RG w' P' N) w' P' l v'→Sl (RG w' P' K) w' P' l v':=by
 have hw: ∀ (i:Nat) d,l[i]? =some d→Sx.wS N (Sx.gB d)≤8000:=fun i d hd=>by
  have:=sum_nth (fun d=>Sx.wS N (Sx.gB d)) hd
  have e:Sx.wG N l=Sx.sum (fun d=>Sx.wS N (Sx.gB d)) l:=rfl
  omega
 refine ⟨⟨h3,hs.len,hs.ps,fun i d hd=> ?_,fun i d hd=> ?_⟩,?_⟩
 ·exact Nat.le_trans (Rn.wS_le _ N _ h2) (Nat.le_trans (hw i d hd) (by decide))
 ·obtain ⟨g1,g2,g3⟩:=hg i d hd
  exact ⟨g1,g2,Rn.nmS_le _ N _ h2 g3⟩
 ·intro w' P' v' h'
  refine h'.mono' ?_
  rintro d c hd ⟨nm,at',ps,body,uP,uB,e1,e2,e3,e4⟩
  obtain ⟨i,hi⟩:=List.getElem?_of_mem hd
  have:=hw i d hi
  rw [e1] at this
  have this':Sx.wS N body≤8000:=this
  exact ⟨nm,at',ps,body,uP,uB,e1,e2,e3,e4.lower N K (by omega)⟩
theorem gl_low {w:World} {P:Nat→Prop} {n:Nat} {l:List Sx.Tr} {v:Value} (h:Sl (RG w P n) w P l v):Sl (RG w (fun b=>b<w.heap.size) n) w (fun b=>b<w.heap.size) l v:=
 Sl.base (R:=RG w P n) h (fun b hb _=>hb) (fun d c hr=>⟨hr.base (fun b hb _=>hb),by obtain ⟨nm,at',ps,body,uP,uB,_,rfl,_⟩:=hr;simp⟩)
theorem VV.kp {w w':World} {v:Value} {out:List (List Kn.Nv)} (h:VV w v out) (k:Kp [] w w'):VV w' v out:=by
 obtain ⟨a,c,hv,h⟩:=h
 refine ⟨a,c,hv,fun hn=> ?_⟩
 obtain ⟨g,o,ha,hx⟩:=h hn
 refine ⟨g,o,ha,fun j x hj=> ?_⟩
 obtain ⟨u,h1,h2⟩:=hx j x hj
 exact ⟨u,k.some h1 (by simp),h2.kpb (fun _ _ _ _ _ _ _ hc=>k.some hc (by simp))⟩
theorem uVar:Tryz.prog.underlying 39=some (.struct (Tryz.prog.fieldsOf 39)):=by kernel_rfl
theorem heldVar:Tryz.prog.stoodInHeld 39=false:=by kernel_rfl
theorem neqV (a b:List UInt8) (w:World):Sem.run Tryz.prog (binOp .neq 39 (.agg #[.string (bs a),.string (bs b)]) (.agg #[.string (bs a),.string (bs b)])) w= .ok (.bool false) w:=by
 have u9:=Tryz.underlying9
 have a9:=Tryz.isAgg9
 have z9:=Tryz.sizeOf9
 rw [run_neq_struct,show (10000:Nat)=9999+1 from rfl,run_equalIn_agg w 9999 39 _ _ uVar heldVar]
 simp only [Program.fieldsOf,Tryz.underlying39]
 go_simp
set_option maxRecDepth 100000 in
set_option maxHeartbeats 1000000 in
theorem sameVars_any (l:List Kn.Nv) (v v':Value) (w:World) (hl:l.length≤1000000) (h1:VR w v l) (h2:VR w v' l):
  Calls Tryz.prog 13 #[v,v'] w fun e w'=>e= .returned (.bool true)∧ ∃ n,w'=w.drewN n:=by
 obtain ⟨a,c,rfl,h1⟩:=h1
 obtain ⟨a',c',rfl,h2⟩:=h2
 have r1:((l.length:Int) !=(l.length:Int))=false:=by simp
 by_cases h0:l=[]
 ·subst h0
  go_enter Tryz.func13,Tryz.ntmps13
  go_wp2
  go_loopw [5] (fun i wr=>i= .int .i64 0∧wr=w) (fun _ _=>0)
  case atStart=>exact ⟨rfl,rfl⟩
  case round=>
   obtain ⟨rfl,rfl⟩:=hrel
   go_wp2
   go_ret
   exact ⟨rfl,0,rfl⟩
 ·obtain ⟨b,o,rfl,q1⟩:=h1 h0
  obtain ⟨b',o',rfl,q2⟩:=h2 h0
  have H1:=hide q1
  have H2:=hide q2
  clear h1 h2 h0 q1 q2
  go_enter Tryz.func13,Tryz.ntmps13
  go_wp2
  go_loopw [5] (fun i wr=> ∃ k:Nat,k≤l.length∧i= .int .i64 k∧ ∃ n,wr=w.drewN n) (fun i _=>l.length - (intOf i).toNat)
  case atStart=>exact ⟨0,Nat.zero_le _,rfl,0,rfl⟩
  case round=>
   obtain ⟨k,hk,rfl,n,rfl⟩:=hrel
   by_cases hlt:k<l.length
   ·obtain ⟨x,hx⟩: ∃ x,l[k]? =some x:=⟨_,List.getElem?_eq_getElem hlt⟩
    obtain ⟨g1,g2⟩:=H1.out k x hx
    obtain ⟨g3,g4⟩:=H2.out k x hx
    have hne:=neqV x.1 x.2
    have hk0:(0:Int)≤(k:Int):=by omega
    have hk1:(k:Int)<(l.length:Int):=by omega
    clear hx
    go_wp2
    go_quiet (fail)
    go_wp2
    go_roundw
    case rel=>exact ⟨k+1,by omega,by go_num,_,rfl⟩
    case measure=>simp [intOf];omega
   ·obtain rfl:k=l.length:=by omega
    go_wp2
    go_ret
    exact ⟨rfl,_,rfl⟩
theorem Kn.stg_few (n:Nat): ∀ (l:List Sx.Tr) (i a:Nat) (ab:List Sx.Tr) (out o:List (List Kn.Nv)),Kn.stg n i a ab out l= .inl o→(∀ x ∈ out,x.length≤30)→(∀ x ∈ o,x.length≤30)∧o.length=out.length+l.length
 |[],i,a,ab,out,o,h,ho=>by obtain rfl:=Sum.inl.inj h;exact ⟨ho,by simp⟩
 |g::r,i,a,ab,out,o,h,ho=>by
  unfold Kn.stg at h
  split at h
  ·cases h
  ·split at h
   ·cases h
   ·rename_i s hs
    split at h
    ·cases h
    ·rename_i h1
     obtain ⟨q1,q2⟩:=Kn.stg_few n r (i+1) s.at' (ab++[g]) (out++[s.bd]) o h (fun x hx=>by
      rcases List.mem_append.1 hx with hx|hx
      ·exact ho x hx
      ·obtain rfl:x=s.bd:=by simpa using hx
       omega)
     exact ⟨q1,by rw [q2];simp;omega⟩
theorem Kn.vars_few {n:Nat} {l:List Sx.Tr} {o:List (List Kn.Nv)} (h:Kn.vars n l= .inl o):(∀ x ∈ o,x.length≤30)∧o.length=l.length:=by
 unfold Kn.vars at h
 split at h
 ·cases h
 ·split at h
  ·cases h
  ·rename_i o' ho
   split at h
   ·obtain rfl:=Sum.inl.inj h
    have:=Kn.stg_few n l 0 0 [] [] o' ho (fun x hx=>by cases hx)
    simpa using this
   ·cases h
set_option maxRecDepth 100000 in
set_option maxHeartbeats 2000000 in
theorem kchecks_any (ST: ∀ c n,StsT c n) (N:Nat) (hN:20000≤N) (w:World) (hT:Tb w) (P:Nat→Prop) (l:List Sx.Tr) (a:Option Addr) (cap:Nat) (h:Sl (RG w P N) w P l (.slice a l.length cap)) (hb:LbG N l) (hPw: ∀ b,P b→b<w.heap.size):
  Calls Tryz.prog 3 #[.agg #[.slice a l.length cap]] w fun e w'=>e= .returned (.bool true)∧Kp [] w w':=by
 have HT:=hide hT
 have H1:=hide h
 have HB:=hide hb
 have HPW:=hide hPw
 clear hT h hb hPw
 go_enter Tryz.func3,Tryz.ntmps3
 go_wp2_with fail
 refine (kbegun_any _ (HT.out.kp ((Kp.refl _ _).alloc _))).mono ?_
 rintro e w1 ⟨rfl,hk1⟩
 have K1:Hid (Kp [] w w1):=hide (((Kp.refl [] _).alloc _).trans hk1)
 have x0:w1.cell? ⟨w.heap.size,0,none⟩=some (.slice a l.length cap):=hk1.some (by simp [go_sem]) (by simp)
 clear hk1
 go_wp2_with fail
 refine (greatK_any N _ P l a cap (GL.keep H1.out K1.out) HB.out).mono ?_
 rintro e w2 ⟨g,rfl,hg,hk2⟩
 have K2:=hide (K1.out.trans hk2)
 have y0:=hk2.some x0 (by simp)
 clear hk2 x0
 cases g with
 |true=>
  go_wp2
  go_ret
  exact ⟨rfl,K2.out⟩
 |false=>
  obtain ⟨⟨hs,hgn⟩,hw8,hl100⟩:=hg rfl
  have HNm:=hide (lower_K (K:=10000) hs hgn hw8 (by decide) (by omega) (by decide)).1
  have HLow:=hide (lower_K (K:=10000) hs hgn hw8 (by decide) (by omega) (by decide)).2
  have HS:=hide hs
  have hlB:Hid (∀ g ∈ l,(Sx.gB g).length≤1000000):=hide fun g hg=>by
   obtain ⟨i,hi⟩:=List.getElem?_of_mem hg
   have h1:=HNm.out.ws i g hi
   have h2:(Sx.gB g).length≤Sx.wS 10000 (Sx.gB g):=Nat.le_add_right _ _
   exact Nat.le_trans h2 h1
  clear hg hs hgn
  go_wp2_with fail
  refine (copyProgram_any N _ P l a cap (GL.keep H1.out K2.out) HS.out).mono ?_
  rintro e w3 ⟨a3,cap3,rfl,hs3,hk3⟩
  have K3:=hide (K2.out.trans hk3)
  have HCp:=hide hs3
  have z0:=hk3.some y0 (by simp)
  have hb0:=World.block_lt_of_cell? _ _ z0
  clear hk3 hs3 y0
  have KA:Hid (Kp [] w3 (w3.alloc (.cells #[.slice a3 l.length cap3] 24))):=hide ((Kp.refl _ _).alloc _)
  have CV1:=hide (kVars_any 10000 _ _ l a3 cap3 (HT.out.kp (K3.out.trans KA.out)) (HLow.out _ _ _ (gl_low (GL.keep HCp.out KA.out))) HNm.out (fun b hb=>hb) hlB.out)
  have CV2:=hide (fun w' (k:Kp [] w w')=>rVars_any ST 10000 w' P l a cap (HT.out.kp k) (HLow.out _ _ _ (GL.keep H1.out k)) HNm.out (fun b hb=>Nat.lt_of_lt_of_le (HPW.out b hb) k.size) hlB.out)
  have CC:=hide (fun w' (k:Kp [] w3 w')=>kCheck_any 10000 w' _ l a3 cap3 (HT.out.kp (K3.out.trans k)) (HLow.out _ _ _ (gl_low (GL.keep HCp.out k))) HNm.out (fun b hb=>hb) hlB.out)
  have C4:Hid (∀ w',Kp [] w3 w'→Calls Tryz.prog 12 #[.agg #[.slice a3 l.length cap3],.agg #[.slice a l.length cap],.bool true] w' fun e w''=>e= .returned (.bool true)∧Kp [] w' w''):=hide (fun w' k=>rsameT_any N w' _ P l a3 a cap3 cap (GL.keep HCp.out k) (GL.keep H1.out (K3.out.trans k)) HS.out)
  have HVT:Hid (Kn.vt 10000 l=match Kn.vars 10000 l with| .inr f=>f| .inl _=>(0,0)):=hide rfl
  have HFW:Hid (∀ o,Kn.vars 10000 l= .inl o→(∀ x ∈ o,x.length≤30)∧o.length=l.length):=hide (fun o ho=>Kn.vars_few ho)
  generalize Kn.vars 10000 l=RV at *
  cases RV with
  |inr f=>
   rw [HVT.out] at CC
   have hne:=neqF f.1 f.2
   clear HVT HFW HCp KA
   go_wp2_with fail
   refine CV1.out.mono ?_
   rintro e w4 ⟨rfl,hk4⟩
   have K4:Hid (Kp [] w3 w4):=hide (((Kp.refl [] _).alloc _).trans hk4)
   have u0:=K4.out.some z0 (by simp)
   have v0:w4.cell? ⟨w3.heap.size,0,none⟩=some (.slice a3 l.length cap3):=hk4.some (by simp [go_sem]) (by simp)
   have hb4:=World.block_lt_of_cell? _ _ v0
   have hb4':=World.block_lt_of_cell? _ _ u0
   clear hk4 CV1
   go_wp2_with fail
   refine (CV2.out _ (K3.out.trans (K4.out.alloc _))).mono ?_
   rintro e w5 ⟨rfl,hk5⟩
   have K5:=hide ((K4.out.alloc (.cells #[.int .i64 f.1,.int .i64 f.2] 30)).trans hk5)
   have s0:=K5.out.some z0 (by simp)
   have t0:w5.cell? ⟨w3.heap.size,0,none⟩=some (.slice a3 l.length cap3):=(((Kp.refl [] w4).alloc _).trans hk5).some v0 (by simp)
   have f0:w5.cell? ⟨w4.heap.size,0,none⟩=some (.int .i64 f.1):=hk5.some (by simp [go_sem]) (by simp)
   have f1:w5.cell? ⟨w4.heap.size,1,none⟩=some (.int .i64 f.2):=hk5.some (by simp [go_sem]) (by simp)
   have hb5:=World.block_lt_of_cell? _ _ s0
   have hb6:=World.block_lt_of_cell? _ _ t0
   have hb7:=World.block_lt_of_cell? _ _ f0
   clear hk5 u0 v0 z0
   have KB:=hide (K5.out.alloc (.cells #[.int .i64 f.1,.int .i64 f.2] 30))
   have n0:(w5.alloc (.cells #[.int .i64 f.1,.int .i64 f.2] 30)).cell? ⟨w.heap.size,0,none⟩=some (.slice a l.length cap):=((Kp.refl [] w5).alloc _).some s0 (by simp)
   have n1:(w5.alloc (.cells #[.int .i64 f.1,.int .i64 f.2] 30)).cell? ⟨w3.heap.size,0,none⟩=some (.slice a3 l.length cap3):=((Kp.refl [] w5).alloc _).some t0 (by simp)
   have n2:(w5.alloc (.cells #[.int .i64 f.1,.int .i64 f.2] 30)).cell? ⟨w4.heap.size,0,none⟩=some (.int .i64 f.1):=((Kp.refl [] w5).alloc _).some f0 (by simp)
   have n3:(w5.alloc (.cells #[.int .i64 f.1,.int .i64 f.2] 30)).cell? ⟨w4.heap.size,1,none⟩=some (.int .i64 f.2):=((Kp.refl [] w5).alloc _).some f1 (by simp)
   have n4:(w5.alloc (.cells #[.int .i64 f.1,.int .i64 f.2] 30)).cell? ⟨w5.heap.size,0,none⟩=some (.int .i64 f.1):=by simp [go_sem]
   have n5:(w5.alloc (.cells #[.int .i64 f.1,.int .i64 f.2] 30)).cell? ⟨w5.heap.size,1,none⟩=some (.int .i64 f.2):=by simp [go_sem]
   go_wp2
   go_region_held3 (fun w'=>w'.cell? ⟨w.heap.size,0,none⟩=some (.slice a l.length cap)∧w'.cell? ⟨w3.heap.size,0,none⟩=some (.slice a3 l.length cap3)∧w'.cell? ⟨w4.heap.size,0,none⟩=some (.int .i64 f.1)∧w'.cell? ⟨w4.heap.size,1,none⟩=some (.int .i64 f.2)∧w'.cell? ⟨w5.heap.size,0,none⟩=some (.int .i64 f.1)∧w'.cell? ⟨w5.heap.size,1,none⟩=some (.int .i64 f.2)) ((first|exact ⟨by assumption,by assumption,by assumption,by assumption,by assumption,by assumption⟩|go_keep))
    ((first
      |(have hh:=KB;clear hh;go_at_call 11;refine (CC.out _ (KB.out.trans (by exact ⟨rfl,rfl,rfl,Nat.le_refl _,fun _ _ _=>rfl⟩))).mono ?_;rintro e w6 ⟨rfl,k6⟩;have KC:=hide (KB.out.trans (Kp.trans (by exact ⟨rfl,rfl,rfl,Nat.le_refl _,fun _ _ _=>rfl⟩) k6));have m0:=k6.some n0 (by simp);have m1:=k6.some n1 (by simp);have m2:=k6.some n2 (by simp);have m3:=k6.some n3 (by simp);have m4:=k6.some n4 (by simp);have m5:=k6.some n5 (by simp);clear KB k6 n0 n1 n2 n3 n4 n5)
      |(go_at_call 12;refine (C4.out _ (KC.out.trans (by exact ⟨rfl,rfl,rfl,Nat.le_refl _,fun _ _ _=>rfl⟩))).mono ?_;rintro e w7 ⟨rfl,k7⟩;have KD:=hide (KC.out.trans (Kp.trans (by exact ⟨rfl,rfl,rfl,Nat.le_refl _,fun _ _ _=>rfl⟩) k7));have n0:=k7.some m0 (by simp);have n1:=k7.some m1 (by simp);have n2:=k7.some m2 (by simp);have n3:=k7.some m3 (by simp);have n4:=k7.some m4 (by simp);have n5:=k7.some m5 (by simp);clear KC k7 m0 m1 m2 m3 m4 m5)))
   all_goals
    go_wp2
    go_loopw [8] (fun iv wr=>iv= .int .i64 0∧Hid (Kp [] w wr)) (fun _ _=>0)
    case atStart=>exact ⟨rfl,hide (K3.out.trans KD.out)⟩
    case round=>
     obtain ⟨rfl,HKR⟩:=hrel
     go_wp2
     go_ret
     exact ⟨rfl,HKR.out⟩
  |inl o=>
   rw [HVT.out] at CC
   have hne:=neqF 0 0
   obtain ⟨hx30,holen⟩:=HFW.out o rfl
   have HX:=hide hx30
   have hol:o.length≤100:=by omega
   have q0:((o.length:Int) !=(o.length:Int))=false:=by simp
   clear HVT HFW HCp KA hx30 holen
   go_wp2_with fail
   refine CV1.out.mono ?_
   rintro e w4 ⟨av,cv,rfl,hv4,hk4⟩
   have HV4:=hide hv4
   have K4:Hid (Kp [] w3 w4):=hide (((Kp.refl [] _).alloc _).trans hk4)
   have u0:=K4.out.some z0 (by simp)
   have v0:w4.cell? ⟨w3.heap.size,0,none⟩=some (.slice a3 l.length cap3):=hk4.some (by simp [go_sem]) (by simp)
   have hb4:=World.block_lt_of_cell? _ _ v0
   have hb4':=World.block_lt_of_cell? _ _ u0
   clear hk4 hv4 CV1
   go_wp2_with fail
   refine (CV2.out _ (K3.out.trans (K4.out.alloc _))).mono ?_
   rintro e w5 ⟨bv,cb,rfl,hv5,hk5⟩
   have HV5:=hide hv5
   have K5:=hide ((K4.out.alloc (.cells #[.int .i64 0,.int .i64 0] 30)).trans hk5)
   have K45:Hid (Kp [] w4 w5):=hide (((Kp.refl [] _).alloc _).trans hk5)
   have s0:=K5.out.some z0 (by simp)
   have t0:w5.cell? ⟨w3.heap.size,0,none⟩=some (.slice a3 l.length cap3):=(((Kp.refl [] w4).alloc _).trans hk5).some v0 (by simp)
   have f0:w5.cell? ⟨w4.heap.size,0,none⟩=some (.int .i64 0):=hk5.some (by simp [go_sem]) (by simp)
   have f1:w5.cell? ⟨w4.heap.size,1,none⟩=some (.int .i64 0):=hk5.some (by simp [go_sem]) (by simp)
   have hb5:=World.block_lt_of_cell? _ _ s0
   have hb6:=World.block_lt_of_cell? _ _ t0
   have hb7:=World.block_lt_of_cell? _ _ f0
   clear hk5 hv5 u0 v0 z0
   have KB:=hide (K5.out.alloc (.cells #[.int .i64 0,.int .i64 0] 30))
   have n0:(w5.alloc (.cells #[.int .i64 0,.int .i64 0] 30)).cell? ⟨w.heap.size,0,none⟩=some (.slice a l.length cap):=((Kp.refl [] w5).alloc _).some s0 (by simp)
   have n1:(w5.alloc (.cells #[.int .i64 0,.int .i64 0] 30)).cell? ⟨w3.heap.size,0,none⟩=some (.slice a3 l.length cap3):=((Kp.refl [] w5).alloc _).some t0 (by simp)
   have n2:(w5.alloc (.cells #[.int .i64 0,.int .i64 0] 30)).cell? ⟨w4.heap.size,0,none⟩=some (.int .i64 0):=((Kp.refl [] w5).alloc _).some f0 (by simp)
   have n3:(w5.alloc (.cells #[.int .i64 0,.int .i64 0] 30)).cell? ⟨w4.heap.size,1,none⟩=some (.int .i64 0):=((Kp.refl [] w5).alloc _).some f1 (by simp)
   have n4:(w5.alloc (.cells #[.int .i64 0,.int .i64 0] 30)).cell? ⟨w5.heap.size,0,none⟩=some (.int .i64 0):=by simp [go_sem]
   have n5:(w5.alloc (.cells #[.int .i64 0,.int .i64 0] 30)).cell? ⟨w5.heap.size,1,none⟩=some (.int .i64 0):=by simp [go_sem]
   go_wp2
   go_region_held3 (fun w'=>w'.cell? ⟨w.heap.size,0,none⟩=some (.slice a l.length cap)∧w'.cell? ⟨w3.heap.size,0,none⟩=some (.slice a3 l.length cap3)∧w'.cell? ⟨w4.heap.size,0,none⟩=some (.int .i64 0)∧w'.cell? ⟨w4.heap.size,1,none⟩=some (.int .i64 0)∧w'.cell? ⟨w5.heap.size,0,none⟩=some (.int .i64 0)∧w'.cell? ⟨w5.heap.size,1,none⟩=some (.int .i64 0)) ((first|exact ⟨by assumption,by assumption,by assumption,by assumption,by assumption,by assumption⟩|go_keep))
    ((first
      |(have hh:=KB;clear hh;go_at_call 11;refine (CC.out _ (KB.out.trans (by exact ⟨rfl,rfl,rfl,Nat.le_refl _,fun _ _ _=>rfl⟩))).mono ?_;rintro e w6 ⟨rfl,k6⟩;have KC:=hide (KB.out.trans (Kp.trans (by exact ⟨rfl,rfl,rfl,Nat.le_refl _,fun _ _ _=>rfl⟩) k6));have KF:Hid (Kp [] w5 w6):=hide (((Kp.refl [] w5).alloc (.cells #[.int .i64 0,.int .i64 0] 30)).trans (Kp.trans (by exact ⟨rfl,rfl,rfl,Nat.le_refl _,fun _ _ _=>rfl⟩) k6));have m0:=k6.some n0 (by simp);have m1:=k6.some n1 (by simp);have m2:=k6.some n2 (by simp);have m3:=k6.some n3 (by simp);have m4:=k6.some n4 (by simp);have m5:=k6.some n5 (by simp);clear KB k6 n0 n1 n2 n3 n4 n5)
      |(go_at_call 12;refine (C4.out _ (KC.out.trans (by exact ⟨rfl,rfl,rfl,Nat.le_refl _,fun _ _ _=>rfl⟩))).mono ?_;rintro e w7 ⟨rfl,k7⟩;have KD:=hide (KC.out.trans (Kp.trans (by exact ⟨rfl,rfl,rfl,Nat.le_refl _,fun _ _ _=>rfl⟩) k7));have KG:Hid (Kp [] w5 w7):=hide (KF.out.trans (Kp.trans (by exact ⟨rfl,rfl,rfl,Nat.le_refl _,fun _ _ _=>rfl⟩) k7));have n0:=k7.some m0 (by simp);have n1:=k7.some m1 (by simp);have n2:=k7.some m2 (by simp);have n3:=k7.some m3 (by simp);have n4:=k7.some m4 (by simp);have n5:=k7.some m5 (by simp);clear KC k7 m0 m1 m2 m3 m4 m5)))
   all_goals
    go_wp2
    go_loopw [8] (fun iv wr=> ∃ k:Nat,k≤o.length∧iv= .int .i64 k∧Hid (Kp [] w wr)∧Hid (VV wr (.slice av o.length cv) o)∧Hid (VV wr (.slice bv o.length cb) o)) (fun iv _=>o.length - (intOf iv).toNat)
    case atStart=>exact ⟨0,Nat.zero_le _,rfl,hide (K3.out.trans KD.out),hide (HV4.out.kp (K45.out.trans KG.out)),hide (HV5.out.kp KG.out)⟩
    case round=>
     obtain ⟨k,hk,rfl,HKR,HA,HB5⟩:=hrel
     by_cases hlt:k<o.length
     ·have d1:decide ((k:Int)<(o.length:Int))=true:=by simp;omega
      obtain ⟨x,hx⟩: ∃ x,o[k]? =some x:=⟨_,List.getElem?_eq_getElem hlt⟩
      obtain ⟨a1,c1,e1,g1⟩:=HA.out
      obtain ⟨rfl,rfl⟩:av=a1∧cv=c1:=by simpa using e1
      obtain ⟨a2,c2,e2,g2⟩:=HB5.out
      obtain ⟨rfl,rfl⟩:bv=a2∧cb=c2:=by simpa using e2
      have hn0:o ≠ []:=fun e=>by rw [e] at hlt;simp at hlt
      obtain ⟨b1,o1,rfl,j1⟩:=g1 hn0
      obtain ⟨b2,o2,rfl,j2⟩:=g2 hn0
      obtain ⟨y1,h1,r1⟩:=j1 k x hx
      obtain ⟨y2,h2,r2⟩:=j2 k x hx
      have hxl:=HX.out x (List.mem_of_getElem? hx)
      have HSV:=hide (fun w' (k:Kp [] wr w')=>sameVars_any x y1 y2 w' (by omega) (r1.kpb (fun _ _ _ _ _ _ _ hc=>k.some hc (by simp))) (r2.kpb (fun _ _ _ _ _ _ _ hc=>k.some hc (by simp))))
      obtain ⟨aa,ca,ey1,-⟩:=id r1
      obtain ⟨ab,cb',ey2,-⟩:=id r2
      have KH: ∀ m,Kp [] wr (wr.drewN m):=fun m=>(Kp.refl [] wr).drewN m
      have i0':(0:Int)≤(k:Int):=by omega
      have i1':(k:Int)<(o.length:Int):=by omega
      subst ey1
      subst ey2
      clear g1 g2 j1 j2 e1 e2 hn0 hx r1 r2 hxl
      go_wp2
      go_region_held3 (fun w'=>w'.cell? ⟨b1,o1+k,none⟩=some (.slice aa x.length ca)∧w'.cell? ⟨b2,o2+k,none⟩=some (.slice ab x.length cb')) ((first|exact ⟨by assumption,by assumption⟩|go_keep))
       ((go_at_call 13;refine (HSV.out _ (by exact ⟨rfl,rfl,rfl,Nat.le_refl _,fun _ _ _=>rfl⟩)).mono ?_;rintro e w8 ⟨rfl,m8,hw8⟩;subst hw8))
      all_goals
       go_wp2
       go_roundw
       case rel=>exact ⟨k+1,by omega,by go_num,hide (HKR.out.trans (KH _)),hide (HA.out.kp (KH _)),hide (HB5.out.kp (KH _))⟩
       case measure=>simp [intOf];omega
     ·obtain rfl:k=o.length:=by omega
      have d1:decide ((o.length:Int)<(o.length:Int))=false:=by simp
      go_wp2
      go_ret
      exact ⟨rfl,HKR.out⟩
end Go.Proofs.YthcapfojofahkaaGreatDoor
