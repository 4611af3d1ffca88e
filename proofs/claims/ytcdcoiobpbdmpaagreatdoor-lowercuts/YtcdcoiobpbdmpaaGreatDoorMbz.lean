import Derived.Test.YtcdcoiobpbdmpaaGreatDoorMae
import Derived.Test.YtcdcoiobpbdmpaaGreatDoorMbu
import Derived.Test.YtcdcoiobpbdmpaaGreatDoorMby
import Derived.BigRegion
import Derived.BigQuiet
namespace Go.Proofs.YtcdcoiobpbdmpaaGreatDoor
open Go.RowKit
def CC (f n:Nat):Prop:= ∀ (w:World) (P:Nat→Prop) (l:List Sx.Tr) (v:Value),SL w P n l v→Sx.cnt n l≤1000000000→
 Calls Tryz.prog f #[v] w fun e w'=>e= .returned (.int .i64 (Sx.cnt n l))∧Kp [] w w'
set_option maxRecDepth 100000 in
set_option maxHeartbeats 1000000 in
theorem countStmts_step (n:Nat) (ih:CC 17 n):CC 17 (n+1):=by
 intro w P l v h hc
 obtain ⟨a,cap,rfl⟩:=h.slice
 have HS:=hide h
 have IH:=hide ih
 have HC:=hide hc
 have hl:l.length≤1000000000:=by have:l.length+_=Sx.cnt (n+1) l:=rfl;omega
 clear h ih hc
 have hsum: ∀ k:Nat,Sx.sum (fun d=>Sx.cnt n (Sx.sB d)+Sx.cnt n (Sx.sO d)) (l.take k)+l.length≤1000000000:=fun k=>by
  have h1:=Sx.sum_take_le (fun d=>Sx.cnt n (Sx.sB d)+Sx.cnt n (Sx.sO d)) l k
  have:l.length+Sx.sum (fun d=>Sx.cnt n (Sx.sB d)+Sx.cnt n (Sx.sO d)) l=Sx.cnt (n+1) l:=rfl
  have:=HC.out
  omega
 have HSUM:=hide hsum
 clear hsum
 go_enter Tryz.func17,Tryz.ntmps17
 go_wp2
 go_loopw [3,4] (fun nv iv wr=> ∃ k:Nat,k≤l.length∧iv= .int .i64 k∧nv= .int .i64 ((l.length+Sx.sum (fun d=>Sx.cnt n (Sx.sB d)+Sx.cnt n (Sx.sO d)) (l.take k):Nat):Int)∧Hid (Kp [] w wr)) (fun _ iv _=>l.length - (intOf iv).toNat)
 case atStart=>exact ⟨0,Nat.zero_le _,rfl,by simp [Sx.sum],Kp.refl _ _⟩
 case round=>
  obtain ⟨k,hk,rfl,rfl,HK⟩:=hrel
  by_cases hlt:k<l.length
  ·obtain ⟨b,off,D,at',A,B,T,N,E,body,els,uE,uB,uL,rfl,_,hd,_,_,_,_,_,_,_,m7,m8,hE,hB,hL⟩:=(HS.out.keep HK.out (by simp)).nth k hlt
   have hst:=Sx.sum_take (fun d=>Sx.cnt n (Sx.sB d)+Sx.cnt n (Sx.sO d)) l k _ hd
   have h1:=HSUM.out (k+1)
   have hst':Sx.sum (fun d=>Sx.cnt n (Sx.sB d)+Sx.cnt n (Sx.sO d)) (l.take (k+1))=Sx.sum (fun d=>Sx.cnt n (Sx.sB d)+Sx.cnt n (Sx.sO d)) (l.take k)+(Sx.cnt n body+Sx.cnt n els):=hst
   have HST:=hide hst'
   rw [hst'] at h1
   have HB:=hide hB
   have HL:=hide hL
   obtain ⟨aB,cB,rfl⟩:=hB.slice
   obtain ⟨aL,cL,rfl⟩:=hL.slice
   clear hst hst' hE hB hL hd
   generalize Sx.sum (fun d=>Sx.cnt n (Sx.sB d)+Sx.cnt n (Sx.sO d)) (l.take k)=X at *
   have hk0:(0:Int)≤(k:Int):=by omega
   have hk1:(k:Int)<(l.length:Int):=by omega
   go_wp2
   go_region_held_law (fun w'=>w'.cell? ⟨b,off+k * 9+7,none⟩=some (.slice aB body.length cB)∧w'.cell? ⟨b,off+k * 9+8,none⟩=some (.slice aL els.length cL)) ((first|exact ⟨by assumption,by assumption⟩|go_keep))
    ((first
      |(have hK1:=K1;clear hK1;go_at_call 17;refine (IH.out _ P els (.slice aL els.length cL) ?_ ?_).mono ?_;exact HL.out.keep K1.out (by simp);omega;rintro e w2 ⟨rfl,hk2⟩;have d7:w2.cell? ⟨b,off+k * 9+7,none⟩=some (.slice aB body.length cB):=hk2.some c7 (by simp);have d8:w2.cell? ⟨b,off+k * 9+8,none⟩=some (.slice aL els.length cL):=hk2.some c8 (by simp);have K2:Hid (Kp [] wr w2):=K1.out.trans hk2;clear hk2)
      |(go_at_call 17;refine (IH.out _ P body (.slice aB body.length cB) ?_ ?_).mono ?_;exact HB.out.keep (Kp.refl [] _).drew (by simp);omega;rintro e w1 ⟨rfl,hk1⟩;have c7:w1.cell? ⟨b,off+k * 9+7,none⟩=some (.slice aB body.length cB):=hk1.some (by simpa [go_sem] using m7) (by simp);have c8:w1.cell? ⟨b,off+k * 9+8,none⟩=some (.slice aL els.length cL):=hk1.some (by simpa [go_sem] using m8) (by simp);have K1:Hid (Kp [] wr w1):=(Kp.refl [] _).drew.trans hk1;clear hk1)))
   go_wp2
   go_roundw
   case rel=>exact ⟨k+1,by omega,by go_num,by rw [HST.out];first|(congr 1;done)|(congr 1;simp only [IntKind.wrap_i64];omega),HK.out.trans K2.out⟩
   case measure=>simp [intOf];omega
  ·obtain rfl:k=l.length:=by omega
   go_wp2
   go_ret
   refine ⟨?_,HK.out⟩
   rw [List.take_length]
   rfl
def CG (f n:Nat):Prop:= ∀ (w:World) (P:Nat→Prop) (l:List Sx.Tr) (a:Option Addr) (cap:Nat),Sl (RG w P n) w P l (.slice a l.length cap)→Sx.cntG n l≤1000000000→l.length≤1000000000→
 Calls Tryz.prog f #[.agg #[.slice a l.length cap]] w fun e w'=>e= .returned (.int .i64 (Sx.cntG n l))∧Kp [] w w'
set_option maxRecDepth 100000 in
set_option maxHeartbeats 1000000 in
theorem rcount_any (n:Nat) (ih:CC 17 n):CG 9 n:=by
 intro w P l a cap h hc hl
 have HS:=hide h
 have IH:=hide ih
 have HSUM:Hid (∀ k:Nat,Sx.sum (fun d=>Sx.cnt n (Sx.gB d)) (l.take k)≤1000000000):=fun k=>by
  have h1:=Sx.sum_take_le (fun d=>Sx.cnt n (Sx.gB d)) l k
  have:Sx.sum (fun d=>Sx.cnt n (Sx.gB d)) l=Sx.cntG n l:=rfl
  omega
 clear h ih hc
 go_enter Tryz.func9,Tryz.ntmps9
 go_wp2
 go_loopw [3,4] (fun nv iv wr=> ∃ k:Nat,k≤l.length∧iv= .int .i64 k∧nv= .int .i64 ((Sx.sum (fun d=>Sx.cnt n (Sx.gB d)) (l.take k):Nat):Int)∧Hid (Kp [] w wr)∧wr.cell? ⟨w.heap.size,0,none⟩=some (.slice a l.length cap)) (fun _ iv _=>l.length - (intOf iv).toNat)
 case atStart=>exact ⟨0,Nat.zero_le _,rfl,by simp [Sx.sum],(Kp.refl _ _).alloc _,by simp [go_sem]⟩
 case round=>
  obtain ⟨k,hk,rfl,rfl,HK,hp⟩:=hrel
  by_cases hlt:k<l.length
  ·obtain ⟨b,off,nm,at',ps,body,uP,uB,rfl,_,hd,m0,m1,m2,m3,hP,hB⟩:=GL.nth (HS.out.keep HK.out (by simp) (fun d c h=>h.keep HK.out (by simp))) k hlt
   have hst:=Sx.sum_take (fun d=>Sx.cnt n (Sx.gB d)) l k _ hd
   have h1:=HSUM.out (k+1)
   have hst':Sx.sum (fun d=>Sx.cnt n (Sx.gB d)) (l.take (k+1))=Sx.sum (fun d=>Sx.cnt n (Sx.gB d)) (l.take k)+Sx.cnt n body:=hst
   have HST:=hide hst'
   rw [hst'] at h1
   have HB:=hide hB
   obtain ⟨aB,cB,rfl⟩:=hB.slice
   clear hst hst' hB hd m0 m1 m2 hP
   generalize Sx.sum (fun d=>Sx.cnt n (Sx.gB d)) (l.take k)=X at *
   have hk0:(0:Int)≤(k:Int):=by omega
   have hk1:(k:Int)<(l.length:Int):=by omega
   go_wp2_with fail
   refine (IH.out _ P body (.slice aB body.length cB) HB.out (by omega)).mono ?_
   rintro e w1 ⟨rfl,hk1⟩
   have c8:w1.cell? ⟨w.heap.size,0,none⟩=some (.slice (some ⟨b,off,none⟩) l.length cap):=hk1.some hp (by simp)
   have K1:=hide hk1
   clear hk1
   go_wp2
   go_roundw
   case rel=>exact ⟨k+1,by omega,by go_num,by rw [HST.out];first|(congr 1;done)|(congr 1;simp only [IntKind.wrap_i64];omega),HK.out.trans K1.out,c8⟩
   case measure=>simp [intOf];omega
  ·obtain rfl:k=l.length:=by omega
   go_wp2
   go_ret
   refine ⟨?_,HK.out⟩
   rw [List.take_length]
   rfl
theorem countStmts_any (n:Nat):CC 17 n:=by
 induction n with
 |zero=>intro w P l v h;cases h
 |succ n ih=>exact countStmts_step n ih
end Go.Proofs.YtcdcoiobpbdmpaaGreatDoor
namespace Go.Proofs.YtcdcoiobpbdmpaaGreatDoor.Lr
open Go.Proofs.YtcdcoiobpbdmpaaGreatDoor Go.Proofs.YtcdcoiobpbdmpaaGreatDoor.Sx
def QI (x:Cd.In):Prop:=(x.op ≠ 3→x.t.size≤1000)∧x.e.length≤1000000∧x.args.length≤1000000∧ ∀ y ∈ x.args,y.1.length≤1000000
def QA (s:Lw.St):Prop:= ∀ x ∈ s.is,QI x
theorem qi_flat {op a b n to bk lp at':Int}:QI ⟨op,a,b,n,to,⟨#[]⟩,[],[],bk,lp,at'⟩:=
 ⟨fun _=>(by show (⟨#[]⟩:ByteArray).size≤1000;decide),by simp,by simp,fun y hy=>by cases hy⟩
theorem qi_e {op a b n to bk lp at':Int} {e:List (Int × Int)} (h:e.length≤1000000):QI ⟨op,a,b,n,to,⟨#[]⟩,e,[],bk,lp,at'⟩:=
 ⟨fun _=>(by show (⟨#[]⟩:ByteArray).size≤1000;decide),h,by simp,fun y hy=>by cases hy⟩
theorem put_q {s s':Lw.St} {bk at':Int} {x:Cd.In} (h:Lw.put s bk at' x=some s') (hs:QA s) (hx:QI x):QA s':=by
 unfold Lw.put at h
 split at h
 ·obtain rfl:=Option.some.inj h
  intro y hy
  rcases List.mem_append.1 hy with hy|hy
  ·exact hs y hy
  ·obtain rfl:=List.mem_singleton.1 hy
   exact hx
 ·cases h
theorem bind_q {α β:Type} {m:Option α} {f:α→Option β} {b:β} (h:m.bind f=some b): ∃ a,m=some a∧f a=some b:=Option.bind_eq_some_iff.1 h
theorem ov1_q {s s':Lw.St} {bk at':Int} {nm:ByteArray} (h:Lw.ov1 s bk at' nm=some s') (hs:QA s):QA s':=by
 unfold Lw.ov1 at h
 split at h
 ·split at h
  ·exact put_q h hs qi_flat
  ·obtain rfl:=Option.some.inj h
   exact hs
 ·cases h
theorem over_q: ∀ {l:List ByteArray} {s s':Lw.St} {bk at':Int},Lw.over s bk at' l=some s'→QA s→QA s'
 |[],s,s',_,_,h,hs=>by obtain rfl:=Option.some.inj h;exact hs
 |nm::r,s,s',bk,at',h,hs=>by
  obtain ⟨s1,h1,h2⟩:=bind_q (show (Lw.ov1 s bk at' nm).bind (fun s2=>Lw.over s2 bk at' r)=some s' from h)
  exact over_q h2 (ov1_q h1 hs)
theorem overs_q: ∀ {l:List Tr} {s s':Lw.St} {bk at':Int},Lw.overs s bk at' l=some s'→QA s→QA s'
 |[],s,s',_,_,h,hs=>by obtain rfl:=Option.some.inj h;exact hs
 |t::r,s,s',bk,at',h,hs=>by
  obtain ⟨s1,h1,h2⟩:=bind_q (show (Lw.over s bk at' (Lw.bnds t)).bind (fun s2=>Lw.overs s2 bk at' r)=some s' from h)
  exact overs_q h2 (over_q h1 hs)
def StQ (st:Lw.St→Int→Tr→Option Lw.St):Prop:= ∀ s b t s',st s b t=some s'→QA s→QA s'
theorem stmts_q {st:Lw.St→Int→Tr→Option Lw.St} (hst:StQ st): ∀ {l:List Tr} {s s':Lw.St} {bk:Int},Lw.stmts st s bk l=some s'→QA s→QA s'
 |[],s,s',_,h,hs=>by obtain rfl:=Option.some.inj h;exact hs
 |t::r,s,s',bk,h,hs=>by
  obtain ⟨s1,h1,h2⟩:=bind_q (show (st s bk t).bind (fun s2=>Lw.stmts st s2 bk r)=some s' from h)
  exact stmts_q hst h2 (hst _ _ _ _ h1 hs)
theorem within_q {st:Lw.St→Int→Tr→Option Lw.St} (hst:StQ st) {s s':Lw.St} {blk at':Int} {b:Int × Int × Int} {body:List Tr} {last:Lw.St→Int→Option Lw.St} (hl: ∀ s nb s',last s nb=some s'→QA s→QA s') (h:Lw.within st s blk at' b body last=some s') (hs:QA s):QA s':=by
 unfold Lw.within at h
 split at h
 ·obtain ⟨s1,h1,h2⟩:=bind_q h
  obtain ⟨s2,h3,h4⟩:=bind_q h2
  exact hl _ _ _ h4 (overs_q h3 (stmts_q hst h1 hs))
 ·cases h
theorem setTo_q {s s':Lw.St} {k:Nat} {to:Int} (h:Lw.setTo s k to=some s') (hs:QA s):QA s':=by
 unfold Lw.setTo at h
 split at h
 ·rename_i x hx
  obtain rfl:=Option.some.inj h
  intro y hy
  rcases List.mem_or_eq_of_mem_set hy with hy|rfl
  ·exact hs y hy
  ·exact hs x (List.mem_of_getElem? hx)
 ·cases h
theorem loop_q {st:Lw.St→Int→Tr→Option Lw.St} (hst:StQ st) {s s':Lw.St} {blk at':Int} {h0:Cd.In} {b:Int × Int × Int} {body:List Tr} {nms:List ByteArray} (h:Lw.loop st s blk at' h0 b body nms=some s') (hx:QI h0) (hs:QA s):QA s':=by
 unfold Lw.loop at h
 obtain ⟨s1,h1,h2⟩:=bind_q h
 obtain ⟨s2,h3,h4⟩:=bind_q h2
 refine setTo_q h4 (within_q hst (fun s3 nb s4 h5 hs3=> ?_) h3 (put_q h1 hs hx))
 obtain ⟨s5,h6,h7⟩:=bind_q h5
 exact put_q h7 (over_q h6 hs3) qi_flat
theorem either_q {st:Lw.St→Int→Tr→Option Lw.St} (hst:StQ st) {s s':Lw.St} {blk at':Int} {h0:Cd.In} {body els:List Tr} {nms:List ByteArray} (h:Lw.either st s blk at' h0 body els nms=some s') (hx:QI h0) (hs:QA s):QA s':=by
 unfold Lw.either at h
 obtain ⟨s1,h1,h2⟩:=bind_q h
 obtain ⟨s2,h3,h4⟩:=bind_q h2
 obtain ⟨s5,h5,h6⟩:=bind_q h4
 obtain ⟨s6,h7,h8⟩:=bind_q h6
 refine setTo_q h8 (within_q hst (fun s3 nb s4 h9 hs3=>by obtain rfl:=Option.some.inj h9;exact hs3) h7 (setTo_q h5 (within_q hst (fun s3 nb s4 h9 hs3=> ?_) h3 (put_q h1 hs hx))))
 obtain ⟨s7,ha,hb⟩:=bind_q h9
 exact put_q hb (over_q ha hs3) qi_flat
theorem stps_few (vs:List Lw.Vr): ∀ (n:Nat) (l:List Tr),(Lw.stps vs n l).length≤wE n l
 |0,_=>Nat.le_refl _
 |n+1,l=>by
  show (l.flatMap fun x=>Lw.stps vs n (eL x)++[Cd.stp vs (eH x).1 (bs (eH x).2.1) (eH x).2.2]).length≤l.length+Sx.sum (fun d=>wE n (eL d)) l
  induction l with
  |nil=>simp
  |cons x r ih=>
   have:=stps_few vs n (eL x)
   simp only [List.flatMap_cons,List.length_append,List.length_cons,List.length_nil,Sx.sum] at *
   omega
theorem stps_one {vs:List Lw.Vr} {n:Nat} {E:List Tr} (h: ¬ 1000000<wE (n+1) E) {x:Tr} (hx:x ∈ E):(Lw.stps vs (n+1) [x]).length≤1000000:=by
 have h1:=stps_few vs (n+1) [x]
 have h2:wE (n+1) [x]≤wE (n+1) E:=by
  induction E with
  |nil=>cases hx
  |cons y r ih=>
   show [x].length+Sx.sum (fun d=>wE n (eL d)) [x]≤(y::r).length+Sx.sum (fun d=>wE n (eL d)) (y::r)
   have hs:wE (n+1) r≤wE (n+1) (y::r):=by
    show r.length+Sx.sum (fun d=>wE n (eL d)) r≤(y::r).length+Sx.sum (fun d=>wE n (eL d)) (y::r)
    simp only [List.length_cons,Sx.sum]
    omega
   rcases List.mem_cons.1 hx with rfl|hx
   ·simp only [List.length_cons,List.length_nil,Sx.sum]
    omega
   ·exact Nat.le_trans (ih (by omega) hx) hs
 omega
theorem sps_few {s:Lw.St} {n:Nat} {ws:List Lw.Vr}: ∀ {l:List Tr} {i:Nat} {q:List (List (Int × Int) × Int)},Lw.sps s n ws i l=some q→(∀ x ∈ l,(Lw.stps s.vs n [x]).length≤1000000)→q.length=l.length∧ ∀ y ∈ q,y.1.length≤1000000
 |[],i,q,h,_=>by obtain rfl:=Option.some.inj h;exact ⟨rfl,fun y hy=>by cases hy⟩
 |x::r,i,q,h,hx=>by
  unfold Lw.sps at h
  split at h
  ·cases h
  ·obtain ⟨q1,h1,h2⟩:=bind_q h
   obtain rfl:=Option.some.inj h2
   obtain ⟨g1,g2⟩:=sps_few h1 (fun z hz=>hx z (List.mem_cons_of_mem _ hz))
   refine ⟨by simp [g1],fun y hy=> ?_⟩
   rcases List.mem_cons.1 hy with rfl|hy
   ·split
    ·simp
    ·exact hx x (List.mem_cons_self ..)
   ·exact g2 y hy
theorem stmt_q (ab:List Lw.Ab): ∀ n,StQ (Lw.stmt ab n)
 |0,s,b,t,s',h,_=>by cases h
 |n+1,s,b,t,s',h,hs=>by
  have ih:=stmt_q ab n
  unfold Lw.stmt at h
  by_cases hw:1000000<wE (n+1) (sE t)
  ·rw [if_pos hw] at h;cases h
  rw [if_neg hw] at h
  have hE: ∀ vs:List Lw.Vr,(Lw.stps vs (n+1) (sE t)).length≤1000000:=fun vs=>Nat.le_trans (stps_few vs _ _) (by omega)
  have hlE:(sE t).length≤1000000:=Nat.le_trans (Nat.le_add_right _ _) (show wE (n+1) (sE t)≤1000000 by omega)
  by_cases h1:(sH t).1=1∨(sH t).1=2
  ·rw [if_pos h1] at h;exact put_q h hs (qi_e (hE _))
  rw [if_neg h1] at h
  by_cases h3:(sH t).1=3
  ·rw [if_pos h3] at h;exact put_q h hs (qi_e (hE _))
  rw [if_neg h3] at h
  by_cases h4:(sH t).1=4
  ·rw [if_pos h4] at h
   by_cases h41:1000000<(sH t).2.2.2.1.length
   ·rw [if_pos h41] at h;cases h
   ·rw [if_neg h41] at h
    exact put_q h hs ⟨fun e=>absurd rfl e,by simp,by simp,fun y hy=>by cases hy⟩
  rw [if_neg h4] at h
  by_cases h5:(sH t).1=5
  ·rw [if_pos h5] at h;exact put_q h hs qi_flat
  rw [if_neg h5] at h
  by_cases h6:(sH t).1=6
  ·rw [if_pos h6] at h
   cases hx:sE t with
   |nil=>rw [hx] at h;cases h
   |cons x r=>
    have hm:x ∈ sE t:=by rw [hx];exact List.mem_cons_self ..
    rw [hx] at h
    dsimp only at h
    cases hv:Lw.vat s.vs (Cd.nmb s.vs (bs (sH t).2.1)) with
    |none=>rw [hv] at h;cases h
    |some y=>
     rw [hv] at h
     dsimp only at h
     by_cases hy:y.2=⟨#[115,105]⟩
     ·rw [if_pos hy] at h;exact put_q h hs (qi_e (stps_one hw hm))
     ·rw [if_neg hy] at h;exact put_q h hs qi_flat
  rw [if_neg h6] at h
  by_cases h7:(sH t).1=7∨(sH t).1=8∨(sH t).1=9
  ·rw [if_pos h7] at h;exact put_q h hs qi_flat
  rw [if_neg h7] at h
  by_cases h10:(sH t).1=10
  ·rw [if_pos h10] at h
   cases hk:ab.findIdx? (fun g=>decide (g.1=bs (sH t).2.1)) with
   |none=>rw [hk] at h;cases h
   |some k=>
    rw [hk] at h
    obtain ⟨q,h1,h2⟩:=bind_q h
    obtain ⟨g1,g2⟩:=sps_few h1 (fun x hx=>stps_one hw hx)
    exact put_q h2 hs ⟨fun _=>(by show (⟨#[]⟩:ByteArray).size≤1000;decide),by simp,by show q.length≤1000000;omega,g2⟩
  rw [if_neg h10] at h
  by_cases h11:(sH t).1=11
  ·rw [if_pos h11] at h;exact either_q ih h qi_flat hs
  rw [if_neg h11] at h
  by_cases h12:(sH t).1=12
  ·rw [if_pos h12] at h;exact loop_q ih h qi_flat hs
  rw [if_neg h12] at h
  by_cases h13:(sH t).1=13
  ·rw [if_pos h13] at h
   cases hx:sE t with
   |nil=>rw [hx] at h;cases h
   |cons x r=>
    have hE2:=fun vs=>hE vs
    rw [hx] at h hE2
    dsimp only at h
    by_cases hl:1000000≤s.vs.length
    ·rw [if_pos hl] at h;cases h
    ·rw [if_neg hl] at h
     obtain ⟨s1,h1,h2⟩:=bind_q h
     exact loop_q ih h2 qi_flat (put_q (s:=⟨s.vs++_,s.bs,s.is⟩) h1 hs (qi_e (hE2 _)))
  rw [if_neg h13] at h
  by_cases h14:(sH t).1=14
  ·rw [if_pos h14] at h;exact either_q ih h (qi_e (hE _)) hs
  rw [if_neg h14] at h
  obtain rfl:=Option.some.inj h
  exact hs
theorem made_q {ab:List Lw.Ab} {n:Nat} {g:Tr} {vs:List Lw.Vr} {s:Lw.St} (h:Lw.made ab n g vs=some s):QA s:=by
 unfold Lw.made at h
 split at h
 ·cases h
 ·refine within_q (stmt_q ab n) (fun s3 nb s4 h5 hs3=> ?_) h (fun x hx=>by cases hx)
  obtain ⟨s5,h6,h7⟩:=bind_q h5
  exact put_q h7 (over_q h6 hs3) qi_flat
theorem go_q {n:Nat}: ∀ {r:List Tr} {o:List (List Lw.Vr)} {ps PR:List Cd.Pr},Lw.lowerGo n ps r o=some PR→(∀ p ∈ ps,∀ x ∈ p.ins,QI x)→ ∀ p ∈ PR,∀ x ∈ p.ins,QI x
 |[],o,ps,PR,h,hp=>by
  have:Lw.lowerGo n ps [] o=some ps:=by unfold Lw.lowerGo;rfl
  rw [this] at h
  obtain rfl:=Option.some.inj h
  exact hp
 |g::r,[],ps,PR,h,hp=>by
  have:Lw.lowerGo n ps (g::r) []=some ps:=by unfold Lw.lowerGo;rfl
  rw [this] at h
  obtain rfl:=Option.some.inj h
  exact hp
 |g::r,v::o,ps,PR,h,hp=>by
  unfold Lw.lowerGo at h
  obtain ⟨s,h1,h2⟩:=bind_q h
  refine go_q h2 (fun p hpm=> ?_)
  rcases List.mem_append.1 hpm with hpm|hpm
  ·exact hp p hpm
  ·obtain rfl:=List.mem_singleton.1 hpm
   exact made_q h1
theorem first_fault: ∀ {l ab:List Cd.Pr},Ck.first ab l=none→ ∀ p ∈ l,∃ ab',(Ck.fault ab' p).1=0
 |[],_,_,p,hp=>by cases hp
 |q::r,ab,h,p,hp=>by
  unfold Ck.first at h
  split at h
  ·cases h
  ·rename_i h1
   rcases List.mem_cons.1 hp with rfl|hp
   ·exact ⟨ab,Decidable.not_not.1 h1⟩
   ·exact first_fault h p hp
theorem bad_all {ab:List Cd.Pr} {p:Cd.Pr}: ∀ {l:List Cd.In} {i:Nat},Ck.bad ab p i l=none→ ∀ x ∈ l,Ck.ins ab p x=true
 |[],_,_,x,hx=>by cases hx
 |y::r,i,h,x,hx=>by
  unfold Ck.bad at h
  split at h
  ·rename_i h1
   rcases List.mem_cons.1 hx with rfl|hx
   ·exact h1
   ·exact bad_all h x hx
  ·cases h
theorem isT_few {t:ByteArray} (h:Rn.isT t.data.toList 3=true):t.size≤100:=by
 unfold Rn.isT at h
 have h1:t.data.toList.length≤100:=by
  simp only [Bool.and_eq_true,decide_eq_true_eq] at h
  omega
 simpa using h1
theorem fault_ok {ab:List Cd.Pr} {p:Cd.Pr} (h:(Ck.fault ab p).1=0):(∀ v ∈ p.vars,v.2.size≤100)∧p.vars.length≤4000∧p.blocks.length≤2000∧p.ins.length≤2000∧ ∀ x ∈ p.ins,Ck.ins ab p x=true:=by
 unfold Ck.fault at h
 split at h
 ·contradiction
 rename_i hf
 have hf:=Decidable.not_not.1 hf
 cases hb:Ck.bad ab p 0 p.ins with
 |some i=>rw [hb] at h;cases h
 |none=>
  unfold Ck.frame at hf
  split at hf
  ·cases hf
  rename_i ht
  split at hf
  ·cases hf
  split at hf
  ·cases hf
  split at hf
  ·cases hf
  rename_i hl
  refine ⟨fun v hv=> ?_,by omega,by omega,by omega,bad_all hb⟩
  have:=(List.all_eq_true.1 (Bool.not_eq_false _ ▸ ht:Ck.types p.vars=true)) v hv
  exact isT_few this
theorem typ_few {p:Cd.Pr} (h: ∀ v ∈ p.vars,v.2.size≤100) (k:Int):(Cd.typ p k).size≤100:=by
 unfold Cd.typ
 split
 ·cases hx:p.vars[k.toNat]? with
  |none=>show (⟨#[]⟩:ByteArray).size≤100;decide
  |some y=>exact h y (List.mem_of_getElem? hx)
 ·show (⟨#[]⟩:ByteArray).size≤100;decide
theorem code_ok {n:Nat} {l:List Tr} {o:List (List Lw.Vr)} {PR:List Cd.Pr} {m:Int} (h:Lw.lowerGo n [] l o=some PR) (hc:Ck.check PR m=(0,0)):CoOK PR:=by
 have hq:=go_q h (fun p hp=>by cases hp)
 have hf:Ck.first [] PR=none:=by
  unfold Ck.check at hc
  split at hc
  ·cases hc
  split at hc
  ·cases hc
  cases hf:Ck.first [] PR with
  |none=>rfl
  |some f=>
   rw [hf] at hc
   dsimp only at hc
   subst hc
   exact absurd rfl (first_ne hf)
 intro p hp
 obtain ⟨ab',h1⟩:=first_fault hf p hp
 obtain ⟨t1,t2,t3,t4,t5⟩:=fault_ok h1
 refine ⟨⟨t1,by omega,by omega,by omega⟩,fun x hx=> ?_⟩
 obtain ⟨q1,q2,q3,q4⟩:=hq p hp x hx
 refine ⟨?_,q2,q3,q4⟩
 by_cases h3:x.op=3
 ·have h4:=t5 x hx
  unfold Ck.ins Ck.fits at h4
  rw [h3] at h4
  simp only [Int.reduceEq,or_self,if_false,if_true,Bool.and_eq_true] at h4
  have h5:=Ck.eqT_iff.1 h4.2.1.2
  have h6:=typ_few t1 x.a
  rw [h5] at h6
  have h7:((⟨#[115]⟩:ByteArray)++x.t).size=1+x.t.size:=by rw [ByteArray.size_append];rfl
  omega
 ·exact q1 h3
where
 first_ne {l ab:List Cd.Pr} {f:Int × Int} (h:Ck.first ab l=some f):f.1 ≠ 0:=by
  induction l generalizing ab with
  |nil=>cases h
  |cons p r ih=>
   unfold Ck.first at h
   split at h
   ·rename_i h1
    obtain rfl:=Option.some.inj h
    exact h1
   ·exact ih h
end Go.Proofs.YtcdcoiobpbdmpaaGreatDoor.Lr
namespace Go.Proofs.YtcdcoiobpbdmpaaGreatDoor
open Go.RowKit
theorem cs_cnt: ∀ (n:Nat) (l:List Sx.Tr),Kn.cs n l=Sx.cnt n l
 |0,_=>rfl
 |n+1,l=>by
  show (l.map fun t=>1+Kn.cs n (Sx.sB t)+Kn.cs n (Sx.sO t)).sum=l.length+Sx.sum (fun d=>Sx.cnt n (Sx.sB d)+Sx.cnt n (Sx.sO d)) l
  induction l with
  |nil=>rfl
  |cons x r ih=>
   have h1:=cs_cnt n (Sx.sB x)
   have h2:=cs_cnt n (Sx.sO x)
   simp only [List.map_cons,List.sum_cons,List.length_cons,Sx.sum] at *
   omega
theorem cor_at {w:World} {PR:List Cd.Pr} {g o cp:Nat} (h:CoR w (.slice (some ⟨g,o,none⟩) PR.length cp) PR) {k:Nat} {p:Cd.Pr} (hp:PR[k]? =some p):
  ∃ q:PV,w.cell? ⟨g,o+k * 5,none⟩=some (.string p.name)∧w.cell? ⟨g,o+k * 5+1,none⟩=some (.slice q.av p.vars.length q.cv)∧w.cell? ⟨g,o+k * 5+4,none⟩=some (.slice q.ai p.ins.length q.ci)∧ ∀ (j:Nat) x,p.ins[j]? =some x→ ∃ gi oi,q.ai=some ⟨gi,oi,none⟩∧w.cell? ⟨gi,oi+j * 11,none⟩=some (.int .i64 x.op):=by
 obtain ⟨a,c,e,h⟩:=h
 obtain ⟨g',o',e2,h⟩:=h (List.ne_nil_of_mem (List.mem_of_getElem? hp))
 obtain ⟨rfl,rfl⟩:g=g'∧o=o':=by
  rw [e2] at e
  simpa using (by simpa using e:(g=g'∧o=o')∧cp=c).1
 obtain ⟨q,h1,h2⟩:=h k p hp
 refine ⟨q,h1 0 _ rfl,h1 1 _ rfl,h1 4 _ rfl,fun j x hx=> ?_⟩
 obtain ⟨ia,ic,e4,hin⟩:=h2.ins
 obtain ⟨rfl,-⟩:q.ai=ia∧q.ci=ic:=by simpa using e4
 obtain ⟨gi,oi,hgi,hin2⟩:=hin (List.ne_nil_of_mem (List.mem_of_getElem? hx))
 obtain ⟨ae,ce,aa,ca,hic⟩:=hin2 j x hx
 exact ⟨gi,oi,hgi,hic.c0⟩
theorem cor_some {w:World} {PR:List Cd.Pr} {ap:Option Addr} {cp:Nat} (h:CoR w (.slice ap PR.length cp) PR) (hn:PR ≠ []): ∃ g o,ap=some ⟨g,o,none⟩:=by
 obtain ⟨a,c,e,h⟩:=h
 obtain ⟨g',o',e2,h⟩:=h hn
 obtain ⟨rfl,-⟩:ap=a∧cp=c:=by simpa using e
 exact ⟨g',o',e2⟩
theorem gl_one {w:World} {P:Nat→Prop} {n:Nat} {l:List Sx.Tr} {b off cap:Nat} {cap2:Nat} (h:Sl (RG w P n) w P l (.slice (some ⟨b,off,none⟩) l.length cap)) {i:Nat} {d:Sx.Tr} (hd:l[i]? =some d):Sl (RG w P n) w P [d] (.slice (some ⟨b,off+i * 4,none⟩) [d].length cap2):=by
 obtain ⟨a',cap',hv,h⟩:=h
 obtain ⟨rfl,rfl⟩:some (⟨b,off,none⟩:Addr)=a'∧cap=cap':=by simpa using hv
 rcases h with h|⟨b',off',cs,ha,hb,hr,hc⟩
 ·subst h;simp at hd
 ·obtain ⟨rfl,rfl⟩:b=b'∧off=off':=by simpa using ha
  obtain ⟨c,hR,hcu⟩:=hr.at RG_len i _ hd
  refine ⟨_,cap2,rfl,.inr ⟨b,off+i * 4,c,rfl,hb,⟨c,[],by simp,hR,rfl⟩,fun j u hu=> ?_⟩⟩
  have:=hc _ u (hcu j u hu)
  rwa [←Nat.add_assoc] at this
theorem count_one (n:Nat) {w:World} {P:Nat→Prop} {l:List Sx.Tr} {b off cap:Nat} {cap2:Nat} (h:Sl (RG w P n) w P l (.slice (some ⟨b,off,none⟩) l.length cap)) {i:Nat} {d:Sx.Tr} (hd:l[i]? =some d) (hc:Kn.cs n (Sx.gB d)≤300):Calls Tryz.prog 9 #[.agg #[.slice (some ⟨b,off+i * 4,none⟩) 1 cap2]] w fun e w'=>e= .returned (.int .i64 (Kn.cs n (Sx.gB d)))∧Kp [] w w':=by
 have hcn:Sx.cntG n [d]=Kn.cs n (Sx.gB d):=by
  unfold Sx.cntG
  rw [cs_cnt]
  simp [Sx.sum]
 have:=rcount_any n (countStmts_any n) w P [d] (some ⟨b,off+i * 4,none⟩) cap2 (gl_one h hd) (by rw [hcn];omega) (by simp)
 rw [hcn] at this
 exact this
theorem nums_of {C V L j:Nat} (h1:C≤300) (h2:V≤1000000) (h3:L=j+1) (h4:L≤3 * C+V+1):wrap64 (4 * (C:Int))=4 * (C:Int)∧wrap64 (4 * (C:Int)+(V:Int))=4 * (C:Int)+(V:Int)∧wrap64 (4 * (C:Int)+(V:Int)+1)=4 * (C:Int)+(V:Int)+1∧decide (4 * (C:Int)+(V:Int)+1<(L:Int))=false∧wrap64 ((L:Int) - 1)=(j:Int)∧(0:Int)≤(j:Int)∧(j:Int)<(L:Int):=by
 refine ⟨?_,?_,?_,?_,?_,?_,?_⟩
 ·unfold wrap64;omega
 ·unfold wrap64;omega
 ·unfold wrap64;omega
 ·rw [decide_eq_false_iff_not];omega
 ·unfold wrap64;omega
 ·omega
 ·omega
set_option maxRecDepth 100000 in
set_option maxHeartbeats 2000000 in
theorem lruns_any (N:Nat) (hN:20000≤N) (w:World) (hT:Tb w) (P:Nat→Prop) (l:List Sx.Tr) (a:Option Addr) (cap:Nat) (h:Sl (RG w P N) w P l (.slice a l.length cap)) (hb:LbG N l) (hPw: ∀ b,P b→b<w.heap.size) (hcap:l.length≤cap):
  Calls Tryz.prog 3 #[.agg #[.slice a l.length cap]] w fun e w'=>e= .returned (.bool true)∧Kp [] w w':=by
 have HT:=hide hT
 have H1:=hide h
 have HB:=hide hb
 have HPW:=hide hPw
 clear hT h hb hPw
 go_enter Tryz.func3,Tryz.ntmps3
 go_wp2_with fail
 refine (lbegun_any _ (HT.out.kp ((Kp.refl _ _).alloc _))).mono ?_
 rintro e w1 ⟨rfl,hb1⟩
 have hk1:Kp [] _ w1:=Kp.of_below hb1
 have K1:Hid (Kp [] w w1):=hide (((Kp.refl [] _).alloc _).trans hk1)
 have x0:w1.cell? ⟨w.heap.size,0,none⟩=some (.slice a l.length cap):=hk1.some (by simp [go_sem]) (by simp)
 clear hk1 hb1
 go_wp2_with fail
 refine (greatK_any N _ P l a cap (GL.keep H1.out K1.out) HB.out).mono ?_
 rintro e w2 ⟨g,rfl,hg,hk2⟩
 have K2:=hide (K1.out.trans hk2)
 have y0:=hk2.some x0 (by simp)
 clear hk2 x0
 cases g with
 |true=>
  go_wp2
  go_ret
  exact ⟨rfl,K2.out⟩
 |false=>
  obtain ⟨⟨hs,hgn⟩,hw8,hl100⟩:=hg rfl
  obtain ⟨n,hn9⟩: ∃ n,n=9999:=⟨_,rfl⟩
  have HNm:=hide (lower_K (K:=n+1) hs hgn hw8 (by omega) (by omega) (by omega)).1
  have HLow:=hide (lower_K (K:=n+1) hs hgn hw8 (by omega) (by omega) (by omega)).2
  clear hn9
  have hlB:Hid (∀ g ∈ l,(Sx.gB g).length≤1000000):=hide fun g hg=>by
   obtain ⟨i,hi⟩:=List.getElem?_of_mem hg
   have h1:=HNm.out.ws i g hi
   have h2:(Sx.gB g).length≤Sx.wS (n+1) (Sx.gB g):=Nat.le_add_right _ _
   exact Nat.le_trans h2 h1
  have HS2:Hid (∀ w',Kp [] w w'→Sl (RG w' P (n+1)) w' P l (.slice a l.length cap)):=hide (fun w' k=>HLow.out _ _ _ (GL.keep H1.out k))
  have HPX:Hid (∀ w',Kp [] w w'→ ∀ b,P b→b<w'.heap.size):=hide (fun w' k b hb=>Nat.lt_of_lt_of_le (HPW.out b hb) k.size)
  clear hg hs hgn hw8
  cases hRV:Kn.vars (n+1) l with
  |inr f=>
   have CL:=hide (fun w' (k:Kp [] w w')=>lower_bad (n+1) (HT.out.kp k) P (HPX.out w' k) l a cap (HS2.out w' k) HNm.out hlB.out f hRV)
   clear hRV
   go_wp2_with fail
   refine (CL.out _ K2.out).mono ?_
   rintro e w3 ⟨rfl,hf0,hk3⟩
   have K3:=hide (K2.out.trans hk3)
   have qf:(f.1 !=0)=true:=by simpa using hf0
   clear hk3
   go_wp2
   go_ret
   exact ⟨rfl,(K3.out.alloc _).alloc _⟩
  |inl o=>
   have hsg:=sg_of (n:=n) (HS2.out w2 K2.out) hRV
   obtain ⟨PR,hgo,hpl,hol,hne,hl10,hck,hpk,jm,gm,hmi,hjm,hgm⟩:=Lr.lower_ok (n:=n) hRV hsg
   have HOK:=hide (Lr.code_ok hgo hck)
   have CL:=hide (fun w' (k:Kp [] w w')=>lower_gen n (HT.out.kp k) P (HPX.out w' k) l a cap (HS2.out w' k) HNm.out hlB.out o hRV hol hne (by omega) PR hgo)
   rw [mainI_eq,hmi] at CL
   rw [hmi] at hck
   have HCK:=hide hck
   have HPK:=hide hpk
   have hPn:PR ≠ []:=fun e=>by rw [e] at hpl;exact hne (List.length_eq_zero_iff.1 hpl.symm)
   have HJ:Hid (∃ pm,PR[jm]? =some pm∧pm.name=bs [109,97,105,110]):=hide (by
    have hlt:jm<PR.length:=by rw [hpl];exact (List.getElem?_eq_some_iff.1 hjm).1
    refine ⟨_,List.getElem?_eq_getElem hlt,?_⟩
    rw [(hpk jm _ gm (List.getElem?_eq_getElem hlt) hjm).nm,hgm])
   have hcs:Hid (∀ g ∈ l,Kn.cs (n+1) (Sx.gB g)≤300):=hide (fun g hg=>(hsg g hg).cs)
   have HPL:=hide hpl
   have hc1:PR.length≤10:=by omega
   clear hsg hgo hpk hmi hjm hgm hRV hol hne hpl hck
   go_wp2_with fail
   refine (CL.out _ K2.out).mono ?_
   rintro e w3 ⟨ap,cp,rfl,hco,hb3,hcp⟩
   obtain ⟨g,of',rfl⟩:=cor_some hco hPn
   have K3:Hid (Kp [] w w3):=hide (K2.out.trans (Kp.of_below hb3))
   have HCO:=hide hco
   have y1:=bsome hb3 y0
   have CC:=hide (fun w' (b:Below w3.heap.size w3 w')=>ckCheck_any PR (jm:Int) (some ⟨g,of',none⟩) cp w' (HCO.out.keep b) HOK.out (by omega))
   rw [HCK.out] at CC
   clear hco hb3 y0 CL
   have hbA:Below w3.heap.size w3 ((w3.alloc (.cells #[.slice (some ⟨g,of',none⟩) PR.length cp,.int .i64 jm] 29)).alloc (.cells #[.int .i64 0,.int .i64 0] 31)):=((Below.refl _ _).alloc (Nat.le_refl _) _).alloc (by simp) _
   have HBA:=hide hbA
   have y2:=bsome hbA y1
   clear hbA
   go_wp2_with fail
   refine (CC.out _ HBA.out).mono ?_
   rintro e w4 ⟨rfl,hb4⟩
   have B4:Hid (Below w3.heap.size w3 w4):=hide (btrans HBA.out hb4)
   have y3:=bsome hb4 y2
   have z0:w4.cell? ⟨w3.heap.size,0,none⟩=some (.slice (some ⟨g,of',none⟩) PR.length cp):=bsome hb4 (by simp [go_sem])
   have z1:w4.cell? ⟨w3.heap.size,1,none⟩=some (.int .i64 jm):=bsome hb4 (by simp [go_sem])
   obtain ⟨pm,hpm,hnm⟩:=HJ.out
   obtain ⟨qm,n0,-,-,-⟩:=cor_at (HCO.out.keep B4.out) hpm
   rw [hnm] at n0
   have rq:((PR.length:Int) !=(l.length:Int))=false:=by rw [HPL.out];simp
   have i0:(0:Int)≤(jm:Int):=by omega
   have i1:(jm:Int)<(PR.length:Int):=by have:=(List.getElem?_eq_some_iff.1 hpm).1;omega
   have em:((bs [109,97,105,110]).toList == [109,97,105,110])=true:=by rw [bsl];rfl
   have hfd:=lb_field
   clear hb4 y2 y1 hpm hnm CC
   go_wp2_with fail
   go_loopw [5] (fun iv wr=> ∃ k:Nat,k≤PR.length∧iv= .int .i64 k∧Hid (Below w4.heap.size w4 wr)) (fun iv _=>PR.length - (intOf iv).toNat)
   case atStart=>exact ⟨0,Nat.zero_le _,rfl,hide (Below.refl _ _)⟩
   case round=>
    obtain ⟨k,hk,rfl,HBR⟩:=hrel
    have z0r:=bsome HBR.out z0
    have y3r:=bsome HBR.out y3
    have B3r:Hid (Below w3.heap.size w3 wr):=hide (btrans B4.out HBR.out)
    have Kr:Hid (Kp [] w wr):=hide (K3.out.trans (Kp.of_below B3r.out))
    clear z0 z1 y3 n0 rq i0 i1 em hfd
    by_cases hlt:k<PR.length
    ·have d1:decide ((k:Int)<(PR.length:Int))=true:=by simp;omega
     have k1:(k:Int)<(PR.length:Int):=by omega
     obtain ⟨p,hp⟩: ∃ p,PR[k]? =some p:=⟨_,List.getElem?_eq_getElem hlt⟩
     obtain ⟨d,hd⟩: ∃ d,l[k]? =some d:=⟨_,List.getElem?_eq_getElem (by rw [←HPL.out];exact hlt)⟩
     have HQ:=hide (HPK.out k p d hp hd)
     obtain ⟨q,-,m1,m4,mi⟩:=cor_at (HCO.out.keep B3r.out) hp
     have HPO:=(HOK.out p (List.mem_of_getElem? hp)).1
     obtain ⟨li,xl,hins,hop⟩:=HQ.out.la
     obtain ⟨j,hj⟩: ∃ j,j=li.length:=⟨_,rfl⟩
     obtain ⟨L,hL⟩: ∃ L,L=p.ins.length:=⟨_,rfl⟩
     obtain ⟨V,hV⟩: ∃ V,V=p.vars.length:=⟨_,rfl⟩
     obtain ⟨C,hC⟩: ∃ C,C=Kn.cs (n+1) (Sx.gB d):=⟨_,rfl⟩
     have hil:L=j+1:=by rw [hL,hj,hins];simp
     have hle:L≤3 * C+V+1:=by rw [hL,hV,hC];exact HQ.out.le
     have hVb:V≤1000000:=by rw [hV];exact HPO.2.1
     have hCb:C≤300:=by rw [hC];exact hcs.out d (List.mem_of_getElem? hd)
     obtain ⟨gi,oi,hai,mop⟩:=mi li.length xl (by rw [hins,List.getElem?_append_right (Nat.le_refl _),Nat.sub_self];rfl)
     rw [hop,←hj] at mop
     rw [hai,←hL] at m4
     rw [←hV] at m1
     obtain ⟨b,off,nm,at',ps,body,uP,uB,rfl,-,-,-,-,-,-,-,-⟩:=GL.nth (HS2.out wr Kr.out) k (by rw [←HPL.out];exact hlt)
     have s0:(0:Int)≤(k:Int):=by omega
     have s1:(k:Int)≤(k:Int)+1:=by omega
     have s2:(k:Int)+1≤(cap:Int):=by have:=HPL.out;omega
     have hw:wrap64 ((k:Int)+1)=(k:Int)+1:=by simp only [wrap64];omega
     have CN:=count_one (n+1) (cap2:=cap - k) (HS2.out wr Kr.out) hd (by rw [←hC];exact hCb)
     rw [←hC] at CN
     have HCN:=hide CN
     have HNU:=hide (nums_of hCb hVb hil hle)
     replace hw:True→_:=fun _=>hw
     clear hins hop mi hp hd CN hj hL hV hC hai hCb hVb hil hle HPO
     go_wp2_with fail
     refine HCN.out.mono ?_
     rintro e w5 ⟨rfl,hk5⟩
     have hb5:Below wr.heap.size wr w5:=hk5.below
     have HB5:=hide hb5
     have z0s:=bsome hb5 z0r
     have y3s:=bsome hb5 y3r
     have m1s:=bsome hb5 m1
     have m4s:=bsome hb5 m4
     have mops:=bsome hb5 mop
     obtain ⟨w1',w2',w3',d2,w4',j0,j1⟩:=HNU.out
     replace w1':True→_:=fun _=>w1'
     replace w2':True→_:=fun _=>w2'
     replace w3':True→_:=fun _=>w3'
     replace w4':True→_:=fun _=>w4'
     clear hk5 hb5 z0r y3r m1 m4 mop hw
     go_wp2_with fail
     go_quiet (fail)
     go_wp2
     go_roundw
     case rel=>exact ⟨k+1,by omega,by go_num,hide (btrans HBR.out (below_drewN HB5.out _))⟩
     case measure=>simp [intOf];omega
    ·obtain rfl:k=PR.length:=by omega
     have d1:decide ((PR.length:Int)<(PR.length:Int))=false:=by simp
     go_wp2
     go_ret
     exact ⟨rfl,Kr.out⟩
end Go.Proofs.YtcdcoiobpbdmpaaGreatDoor
