import Derived.Test.YtcdcoiobpbdmpaaGreatDoorMac
namespace Go.Proofs.YtcdcoiobpbdmpaaGreatDoor
open Go.RowKit
theorem txt_lt {c:Cx} {n:Nat} {x:List UInt8} (h:Sx.txt (c.full.drop n)=x) (hx:x ≠ []):n<c.full.length:=by
 rcases Nat.lt_or_ge n c.full.length with h1|h1
 ·exact h1
 ·rw [List.drop_eq_nil_of_le h1] at h
  exact absurd h.symm hx
theorem over_no {c:Cx} {w:World} {n:Nat} {s:Sx.St} {b:Bool} (hE:(c.full.drop n).isEmpty=b) (h:RD c w n s):
  Calls Tryz.prog 64 #[.pointer (some ⟨c.rb,0,none⟩)] w fun e w'=>e= .returned (.bool b)∧ ∃ k,w'=w.drewN k:=by
 have:=over_any c w n s h
 rwa [hE] at this
set_option maxHeartbeats 400000 in
theorem seesKind_any (k:Int) (c:Cx) (w:World) (n:Nat) (s:Sx.St) (h:RD c w n s):
  Calls Tryz.prog 144 #[.pointer (some ⟨c.rb,0,none⟩),.int .i64 k] w fun e w'=>e= .returned (.bool (Sx.hasKind k (c.full.drop n)))∧ ∃ k,w'=w.drewN k:=by
 have HH:=hide h
 by_cases hlt:n<c.full.length
 ·obtain ⟨t,ht,hd⟩:=drop_cons c.full n hlt
  obtain ⟨ha,_⟩:=h.ne (fun e=>by rw [e] at hlt;simp at hlt)
  have HE:Hid ((c.full.drop n).isEmpty=false):=by rw [hd];rfl
  have HP:Hid (Sx.hasKind k (c.full.drop n)=(t.kind == k)):=by rw [hd];rfl
  obtain ⟨k0,_,_,_,_⟩:=h.tk n t ht
  have c0:=h.c0
  have c1:=h.c1
  clear h hd ht
  rw [ha] at c0
  clear ha
  go_enter Tryz.func144,Tryz.ntmps144
  go_wp2
  go_quiet ((go_at_call 64;exact Calls.quiet_of (over_no HE.out (HH.out.drewN _))))
  go_wp2
  go_ret
  rw [HP.out]
  exact ⟨rfl,_,rfl⟩
 ·have hd:=drop_last c.full n h.hn hlt
  have HE:Hid ((c.full.drop n).isEmpty=true):=by rw [hd];rfl
  have HP:Hid (Sx.hasKind k (c.full.drop n)=false):=by rw [hd];rfl
  clear h hd
  go_enter Tryz.func144,Tryz.ntmps144
  go_wp2
  go_quiet ((go_at_call 64;exact Calls.quiet_of (over_no HE.out (HH.out.drewN _))))
  go_wp2
  go_ret
  rw [HP.out]
  exact ⟨rfl,_,rfl⟩
theorem field_text (a b d:Value) (x:Value) (w:World):(Instr.field 103 (.agg #[a,b,x,d]) 2).run Tryz.prog w= .ok x w:=by kernel_rfl
theorem field_n (a b d:Value) (x:Value) (w:World):(Instr.field 103 (.agg #[a,b,d,x]) 3).run Tryz.prog w= .ok x w:=by kernel_rfl
end Go.Proofs.YtcdcoiobpbdmpaaGreatDoor
namespace Go.Proofs.YtcdcoiobpbdmpaaGreatDoor
open Go.RowKit
def EL (w:World) (P:Nat→Prop):Nat→List Sx.Tr→Value→Prop
 |0,_,_=>False
 |n+1,l,v=> ∃ a cap,v= .slice a l.length cap∧(l=[]∨ ∃ b off,a=some ⟨b,off,none⟩∧P b∧ ∀ (i:Nat) d,l[i]? =some d→ ∃ op nm k L u,d=Sx.tE op nm k L∧w.cell? ⟨b,off+i * 4,none⟩=some (.int .i64 op)∧w.cell? ⟨b,off+i * 4+1,none⟩=some (.string (bs nm))∧
    w.cell? ⟨b,off+i * 4+2,none⟩=some (.int .i64 k)∧w.cell? ⟨b,off+i * 4+3,none⟩=some u∧EL w P n L u)
theorem EL.slice {w:World} {P:Nat→Prop} {n:Nat} {l:List Sx.Tr} {v:Value} (h:EL w P n l v): ∃ a cap,v= .slice a l.length cap:=by
 cases n with
 |zero=>cases h
 |succ n=>obtain ⟨a,cap,hv,_⟩:=h;exact ⟨a,cap,hv⟩
theorem EL.keep {w w':World} {S:List Nat} {P:Nat→Prop} {n:Nat} {l:List Sx.Tr} {v:Value} (h:EL w P n l v) (hk:Kp S w w') (hS: ∀ k,k ∈ S→ ¬ P k):EL w' P n l v:=by
 induction n generalizing l v with
 |zero=>cases h
 |succ n ih=>
  obtain ⟨a,cap,hv,h⟩:=h
  refine ⟨a,cap,hv,h.imp id ?_⟩
  rintro ⟨b,off,ha,hB,hc⟩
  refine ⟨b,off,ha,hB,fun i d hd=> ?_⟩
  obtain ⟨op,nm,k,L,u,h1,h2,h3,h4,h5,h6⟩:=hc i d hd
  have hn:b ∉ S:=fun hm=>hS b hm hB
  exact ⟨op,nm,k,L,u,h1,hk.some h2 hn,hk.some h3 hn,hk.some h4 hn,hk.some h5 hn,ih h6⟩
theorem EL.base {w:World} {P P':Nat→Prop} {n:Nat} {l:List Sx.Tr} {v:Value} (h:EL w P n l v) (hP: ∀ b,b<w.heap.size→P b→P' b):EL w P' n l v:=by
 induction n generalizing l v with
 |zero=>cases h
 |succ n ih=>
  obtain ⟨a,cap,hv,h⟩:=h
  refine ⟨a,cap,hv,?_⟩
  rcases h with h|⟨b,off,ha,hb,hc⟩
  ·exact .inl h
  ·cases l with
   |nil=>exact .inl rfl
   |cons d0 l0=>
    refine .inr ⟨b,off,ha,?_,fun i d hd=> ?_⟩
    ·obtain ⟨op,nm,k,L,u,h1,h2,_⟩:=hc 0 d0 rfl
     exact hP b (World.block_lt_of_cell? w _ h2) hb
    ·obtain ⟨op,nm,k,L,u,h1,h2,h3,h4,h5,h6⟩:=hc i d hd
     exact ⟨op,nm,k,L,u,h1,h2,h3,h4,h5,ih h6⟩
theorem EL.more {w:World} {P:Nat→Prop} {n:Nat} {l:List Sx.Tr} {v:Value} (m:Nat) (h:EL w P n l v):EL w P (n+m) l v:=by
 induction n generalizing l v with
 |zero=>cases h
 |succ n ih=>
  rw [show n+1+m=n+m+1 from by omega]
  obtain ⟨a,cap,hv,h⟩:=h
  refine ⟨a,cap,hv,h.imp id ?_⟩
  rintro ⟨b,off,ha,hb,hc⟩
  refine ⟨b,off,ha,hb,fun i d hd=> ?_⟩
  obtain ⟨op,nm,k,L,u,h1,h2,h3,h4,h5,h6⟩:=hc i d hd
  exact ⟨op,nm,k,L,u,h1,h2,h3,h4,h5,ih h6⟩
theorem EL.nil (w:World) (P:Nat→Prop) (a:Option Addr) (cap:Nat):EL w P 1 [] (.slice a 0 cap):=⟨a,cap,rfl,.inl rfl⟩
theorem EL.one {w:World} {P:Nat→Prop} {n b off cap:Nat} {O K:Int} {nm:List UInt8} {L:List Sx.Tr} {u:Value} (hB:P b)
  (h0:w.cell? ⟨b,off,none⟩=some (.int .i64 O)) (h1:w.cell? ⟨b,off+1,none⟩=some (.string (bs nm))) (h2:w.cell? ⟨b,off+2,none⟩=some (.int .i64 K)) (h3:w.cell? ⟨b,off+3,none⟩=some u)
  (h:EL w P n L u):EL w P (n+1) [Sx.tE O nm K L] (.slice (some ⟨b,off,none⟩) 1 cap):=by
 refine ⟨_,cap,rfl,.inr ⟨b,off,rfl,hB,fun i d hd=> ?_⟩⟩
 match i,hd with
 |0,hd=>
  simp at hd
  exact ⟨O,nm,K,L,u,hd.symm,by simpa using h0,by simpa using h1,by simpa using h2,by simpa using h3,h⟩
set_option maxHeartbeats 400000 in
theorem part_any (op:Int) (nm:ByteArray) (k:Int) (a:Option Addr) (len cap:Nat) (c:Cx) (w:World) (n:Nat) (s:Sx.St) (h:RD c w n s) (hp:s.parts+1+(c.full.length - n)≤12000):
  Calls Tryz.prog 188 #[.pointer (some ⟨c.rb,0,none⟩),.agg #[.int .i64 op,.string nm,.int .i64 k,.slice a len cap]] w fun e w'=>
   e= .returned (.agg #[.int .i64 op,.string nm,.int .i64 k,.slice a len cap])∧RD c w' n s.part∧Kp [c.rb] w w':=by
 have HH:=hide h
 have c6:=h.c6
 have f6:=h.fz 6
 have hr:=h.rlt
 have hr': ¬ c.rb=w.heap.size:=by omega
 have hr2: ¬ c.rb=w.heap.size+1:=by omega
 have hs:s.parts≤12000:=by omega
 clear h
 go_enter Tryz.func188,Tryz.ntmps188
 go_wp2
 refine bodyPost_ret (v:= .agg #[.int .i64 op,.string nm,.int .i64 k,.slice a len cap]) (by simp [results,Tryz.results188,go_sem]) rfl ⟨rfl,?_,?_⟩
 ·exact ((HH.out.part hp).alloc _).alloc _
 ·exact ((Kp.rb (Kp.refl _ _) _ _).alloc _).alloc _
def Rw (R:Sx.Tr→List Value→Prop):List Sx.Tr→List Value→Prop
 |[],cs=>cs=[]
 |d::r,cs=> ∃ c1 c2,cs=c1++c2∧R d c1∧Rw R r c2
theorem Rw.mono {R R':Sx.Tr→List Value→Prop} {l:List Sx.Tr} {cs:List Value} (h:Rw R l cs) (hR: ∀ d c,R d c→R' d c):Rw R' l cs:=by
 induction l generalizing cs with
 |nil=>exact h
 |cons d r ih=>
  obtain ⟨c1,c2,h1,h2,h3⟩:=h
  exact ⟨c1,c2,h1,hR _ _ h2,ih h3⟩
theorem Rw.snoc {R:Sx.Tr→List Value→Prop} {l:List Sx.Tr} {cs c:List Value} {d:Sx.Tr} (h:Rw R l cs) (hd:R d c):Rw R (l++[d]) (cs++c):=by
 induction l generalizing cs with
 |nil=>cases h;exact ⟨c,[],by simp,hd,rfl⟩
 |cons x r ih=>
  obtain ⟨c1,c2,h1,h2,h3⟩:=h
  exact ⟨c1,c2++c,by simp [h1],h2,ih h3⟩
theorem Rw.len {R:Sx.Tr→List Value→Prop} {z:Nat} (hz: ∀ d c,R d c→c.length=z) {l:List Sx.Tr} {cs:List Value} (h:Rw R l cs):cs.length=l.length * z:=by
 induction l generalizing cs with
 |nil=>cases h;simp
 |cons d r ih=>
  obtain ⟨c1,c2,rfl,h2,h3⟩:=h
  rw [List.length_append,hz _ _ h2,ih h3,List.length_cons,Nat.succ_mul]
  omega
theorem Rw.at {R:Sx.Tr→List Value→Prop} {z:Nat} (hz: ∀ d c,R d c→c.length=z) {l:List Sx.Tr} {cs:List Value} (h:Rw R l cs) (i:Nat) (d:Sx.Tr) (hi:l[i]? =some d): ∃ c,R d c∧ ∀ (j:Nat) u,c[j]? =some u→cs[i * z+j]? =some u:=by
 induction l generalizing cs i with
 |nil=>simp at hi
 |cons x r ih=>
  obtain ⟨c1,c2,rfl,h2,h3⟩:=h
  have hl:=hz _ _ h2
  cases i with
  |zero=>
   simp at hi
   subst hi
   refine ⟨c1,h2,fun j u hu=> ?_⟩
   have hj:j<c1.length:=(List.getElem?_eq_some_iff.1 hu).1
   rw [Nat.zero_mul,Nat.zero_add,List.getElem?_append_left hj]
   exact hu
  |succ i=>
   obtain ⟨c,hc,hcu⟩:=ih h3 i (by simpa using hi)
   refine ⟨c,hc,fun j u hu=> ?_⟩
   rw [List.getElem?_append_right (by rw [hl,Nat.succ_mul];omega),hl,show (i+1) * z+j - z=i * z+j from by rw [Nat.succ_mul];omega]
   exact hcu j u hu
def Sl (R:Sx.Tr→List Value→Prop) (w:World) (P:Nat→Prop) (l:List Sx.Tr) (v:Value):Prop:=
 ∃ a cap,v= .slice a l.length cap∧(l=[]∨ ∃ b off cs,a=some ⟨b,off,none⟩∧P b∧Rw R l cs∧ ∀ (j:Nat) u,cs[j]? =some u→w.cell? ⟨b,off+j,none⟩=some u)
theorem Sl.keep {R R':Sx.Tr→List Value→Prop} {w w':World} {P:Nat→Prop} {S:List Nat} {l:List Sx.Tr} {v:Value} (h:Sl R w P l v) (hk:Kp S w w') (hS: ∀ k,k ∈ S→ ¬ P k) (hR: ∀ d c,R d c→R' d c):Sl R' w' P l v:=by
 obtain ⟨a,cap,hv,h⟩:=h
 refine ⟨a,cap,hv,h.imp id ?_⟩
 rintro ⟨b,off,cs,ha,hb,hr,hc⟩
 exact ⟨b,off,cs,ha,hb,hr.mono hR,fun j u hu=>hk.some (hc j u hu) (fun hm=>hS b hm hb)⟩
theorem Sl.base {R R':Sx.Tr→List Value→Prop} {w:World} {P P':Nat→Prop} {l:List Sx.Tr} {v:Value} (h:Sl R w P l v) (hP: ∀ b,b<w.heap.size→P b→P' b) (hR: ∀ d c,R d c→R' d c∧c ≠ []):Sl R' w P' l v:=by
 obtain ⟨a,cap,hv,h⟩:=h
 refine ⟨a,cap,hv,?_⟩
 rcases h with h|⟨b,off,cs,ha,hb,hr,hc⟩
 ·exact .inl h
 ·cases l with
  |nil=>exact .inl rfl
  |cons d r=>
   refine .inr ⟨b,off,cs,ha,hP b ?_ hb,hr.mono (fun d c h=>(hR d c h).1),hc⟩
   obtain ⟨c1,c2,rfl,h2,_⟩:=hr
   cases c1 with
   |nil=>exact absurd rfl (hR _ _ h2).2
   |cons u c1=>exact World.block_lt_of_cell? w _ (hc 0 u rfl)
theorem Sl.nil (R:Sx.Tr→List Value→Prop) (w:World) (P:Nat→Prop) (a:Option Addr) (cap:Nat):Sl R w P [] (.slice a 0 cap):=⟨a,cap,rfl,.inl rfl⟩
theorem Sl.of_own {R:Sx.Tr→List Value→Prop} {w:World} {P:Nat→Prop} {B t z n:Nat} {l:List Sx.Tr} {v:Value} {cs:List Value} (h:w.ownsRow B t z v n cs) (hn:n=l.length) (hP: ∀ b,B≤b→P b) (hr:Rw R l cs):Sl R w P l v:=by
 subst hn
 rcases h.2 with ⟨rfl,hn⟩|⟨g,cap,cur,rfl,hB,hg,_⟩
 ·have hl:l=[]:=by cases l with
   |nil=>rfl
   |cons a r=>simp at hn
  subst hl
  exact Sl.nil _ _ _ _ _
 ·refine ⟨_,cap,rfl,.inr ⟨g,0,cs,rfl,hP g hB,hr,fun j u hu=> ?_⟩⟩
  have:=h.cells (g:=g) rfl j u hu
  rwa [Addr.add_mid] at this
def RP (d:Sx.Tr) (c:List Value):Prop:= ∃ nm T,d=Sx.tP nm T∧c=[.string (bs nm),.string (bs T)]
def SL (w:World) (P:Nat→Prop):Nat→List Sx.Tr→Value→Prop
 |0,_,_=>False
 |n+1,l,v=>Sl (fun d c=> ∃ D at' A B T N E body els uE uB uL,d=Sx.tS D at' A B T N E body els∧
   c=[.int .i64 D,.int .i64 at',.string (bs A),.string (bs B),.string (bs T),.int .i64 N,uE,uB,uL]∧EL w P n E uE∧SL w P n body uB∧SL w P n els uL) w P l v
def RS (w:World) (P:Nat→Prop) (n:Nat) (d:Sx.Tr) (c:List Value):Prop:= ∃ D at' A B T N E body els uE uB uL,d=Sx.tS D at' A B T N E body els∧
   c=[.int .i64 D,.int .i64 at',.string (bs A),.string (bs B),.string (bs T),.int .i64 N,uE,uB,uL]∧EL w P n E uE∧SL w P n body uB∧SL w P n els uL
theorem SL_succ (w:World) (P:Nat→Prop) (n:Nat) (l:List Sx.Tr) (v:Value):SL w P (n+1) l v=Sl (RS w P n) w P l v:=rfl
def RG (w:World) (P:Nat→Prop) (n:Nat) (d:Sx.Tr) (c:List Value):Prop:= ∃ nm at' ps body uP uB,d=Sx.tG nm at' ps body∧
   c=[.string (bs nm),.int .i64 at',uP,uB]∧Sl RP w P ps uP∧SL w P n body uB
theorem SL.keep {w w':World} {S:List Nat} {P:Nat→Prop} {n:Nat} {l:List Sx.Tr} {v:Value} (h:SL w P n l v) (hk:Kp S w w') (hS: ∀ k,k ∈ S→ ¬ P k):SL w' P n l v:=by
 induction n generalizing l v with
 |zero=>cases h
 |succ n ih=>
  rw [SL_succ] at h ⊢
  refine h.keep hk hS ?_
  rintro d c ⟨D,at',A,B,T,N,E,body,els,uE,uB,uL,h1,h2,h3,h4,h5⟩
  exact ⟨D,at',A,B,T,N,E,body,els,uE,uB,uL,h1,h2,h3.keep hk hS,ih h4,ih h5⟩
theorem SL.base {w:World} {P P':Nat→Prop} {n:Nat} {l:List Sx.Tr} {v:Value} (h:SL w P n l v) (hP: ∀ b,b<w.heap.size→P b→P' b):SL w P' n l v:=by
 induction n generalizing l v with
 |zero=>cases h
 |succ n ih=>
  rw [SL_succ] at h ⊢
  refine h.base hP ?_
  rintro d c ⟨D,at',A,B,T,N,E,body,els,uE,uB,uL,h1,h2,h3,h4,h5⟩
  exact ⟨⟨D,at',A,B,T,N,E,body,els,uE,uB,uL,h1,h2,h3.base hP,ih h4,ih h5⟩,by rw [h2];simp⟩
theorem SL.more {w:World} {P:Nat→Prop} {n:Nat} {l:List Sx.Tr} {v:Value} (m:Nat) (h:SL w P n l v):SL w P (n+m) l v:=by
 induction n generalizing l v with
 |zero=>cases h
 |succ n ih=>
  rw [show n+1+m=n+m+1 from by omega]
  rw [SL_succ] at h ⊢
  obtain ⟨a,cap,hv,h⟩:=h
  refine ⟨a,cap,hv,h.imp id ?_⟩
  rintro ⟨b,off,cs,ha,hb,hr,hc⟩
  refine ⟨b,off,cs,ha,hb,hr.mono ?_,hc⟩
  rintro d c ⟨D,at',A,B,T,N,E,body,els,uE,uB,uL,h1,h2,h3,h4,h5⟩
  exact ⟨D,at',A,B,T,N,E,body,els,uE,uB,uL,h1,h2,h3.more m,ih h4,ih h5⟩
theorem SL.nil (w:World) (P:Nat→Prop) (a:Option Addr) (cap:Nat):SL w P 1 [] (.slice a 0 cap):=Sl.nil _ _ _ _ _
theorem SL.slice {w:World} {P:Nat→Prop} {n:Nat} {l:List Sx.Tr} {v:Value} (h:SL w P n l v): ∃ a cap,v= .slice a l.length cap:=by
 cases n with
 |zero=>cases h
 |succ n=>obtain ⟨a,cap,hv,_⟩:=h;exact ⟨a,cap,hv⟩
theorem RS.keep {w w':World} {S:List Nat} {P:Nat→Prop} {n:Nat} {d:Sx.Tr} {c:List Value} (h:RS w P n d c) (hk:Kp S w w') (hS: ∀ k,k ∈ S→ ¬ P k):RS w' P n d c:=by
 obtain ⟨D,at',A,B,T,N,E,body,els,uE,uB,uL,h1,h2,h3,h4,h5⟩:=h
 exact ⟨D,at',A,B,T,N,E,body,els,uE,uB,uL,h1,h2,h3.keep hk hS,h4.keep hk hS,h5.keep hk hS⟩
theorem RS.base {w:World} {P P':Nat→Prop} {n:Nat} {d:Sx.Tr} {c:List Value} (h:RS w P n d c) (hP: ∀ b,b<w.heap.size→P b→P' b):RS w P' n d c:=by
 obtain ⟨D,at',A,B,T,N,E,body,els,uE,uB,uL,h1,h2,h3,h4,h5⟩:=h
 exact ⟨D,at',A,B,T,N,E,body,els,uE,uB,uL,h1,h2,h3.base hP,h4.base hP,h5.base hP⟩
theorem RS.more {w:World} {P:Nat→Prop} {n:Nat} {d:Sx.Tr} {c:List Value} (m:Nat) (h:RS w P n d c):RS w P (n+m) d c:=by
 obtain ⟨D,at',A,B,T,N,E,body,els,uE,uB,uL,h1,h2,h3,h4,h5⟩:=h
 exact ⟨D,at',A,B,T,N,E,body,els,uE,uB,uL,h1,h2,h3.more m,h4.more m,h5.more m⟩
theorem RG.keep {w w':World} {S:List Nat} {P:Nat→Prop} {n:Nat} {d:Sx.Tr} {c:List Value} (h:RG w P n d c) (hk:Kp S w w') (hS: ∀ k,k ∈ S→ ¬ P k):RG w' P n d c:=by
 obtain ⟨nm,at',ps,body,uP,uB,h1,h2,h3,h4⟩:=h
 exact ⟨nm,at',ps,body,uP,uB,h1,h2,h3.keep hk hS (fun _ _ h=>h),h4.keep hk hS⟩
theorem RP_ne {d:Sx.Tr} {c:List Value} (h:RP d c):c ≠ []:=by
 obtain ⟨nm,T,_,rfl⟩:=h;simp
theorem RG.base {w:World} {P P':Nat→Prop} {n:Nat} {d:Sx.Tr} {c:List Value} (h:RG w P n d c) (hP: ∀ b,b<w.heap.size→P b→P' b):RG w P' n d c:=by
 obtain ⟨nm,at',ps,body,uP,uB,h1,h2,h3,h4⟩:=h
 exact ⟨nm,at',ps,body,uP,uB,h1,h2,h3.base hP (fun _ _ h=>⟨h,RP_ne h⟩),h4.base hP⟩
theorem RG.more {w:World} {P:Nat→Prop} {n:Nat} {d:Sx.Tr} {c:List Value} (m:Nat) (h:RG w P n d c):RG w P (n+m) d c:=by
 obtain ⟨nm,at',ps,body,uP,uB,h1,h2,h3,h4⟩:=h
 exact ⟨nm,at',ps,body,uP,uB,h1,h2,h3,h4.more m⟩
end Go.Proofs.YtcdcoiobpbdmpaaGreatDoor
namespace Go.Proofs.YtcdcoiobpbdmpaaGreatDoor
open Go.RowKit
namespace Bg
def skp (x:List UInt8) (T:List Tk.Tok) (n:Nat):Option Nat:=if Sx.txt (T.drop n)=x then some (n+1) else none
def tok (k:Int) (T:List Tk.Tok) (n:Nat):Option (Tk.Tok × Nat):=T[n]?.bind fun t=>if t.kind=k then some (t,n+1) else none
def ex (T:List Tk.Tok) (n:Nat):Option ((Int × List UInt8 × Int) × Nat):=T[n]?.bind fun t=>
 if t.text=[40]∨t.text=[45]∨Sx.txt (T.drop (n+1)) ∈ [[42],[43],[45],[60],[61,61]] then none
 else if t.kind=3 then some ((1,[],t.n),n+1) else if t.kind=2 then some ((2,t.text,0),n+1) else none
end Bg
theorem obind {α β:Type} {o:Option α} {f:α→Option β} {r:β} (h:o.bind f=some r): ∃ x,o=some x∧f x=some r:=by
 cases o with
 |none=>cases h
 |some x=>exact ⟨x,rfl,h⟩
theorem oif {α:Type} {p:Prop} [Decidable p] {a b:Option α} {r:α} (h:(if p then a else b)=some r):(p∧a=some r)∨(¬ p∧b=some r):=by
 by_cases hp:p
 ·rw [if_pos hp] at h
  exact .inl ⟨hp,h⟩
 ·rw [if_neg hp] at h
  exact .inr ⟨hp,h⟩
theorem sees_yes {c:Cx} {w:World} {n:Nat} {s:Sx.St} (x:ByteArray) (hx:Sx.txt (c.full.drop n)=x.data.toList) (h:RD c w n s):
  Calls Tryz.prog 65 #[.pointer (some ⟨c.rb,0,none⟩),.string x] w fun e w'=>e= .returned (.bool true)∧ ∃ k,w'=w.drewN k:=by
 have:=sees_any x c w n s h
 rwa [decide_eq_true hx] at this
theorem sees_no {c:Cx} {w:World} {n:Nat} {s:Sx.St} (x:ByteArray) (hx: ¬ Sx.txt (c.full.drop n)=x.data.toList) (h:RD c w n s):
  Calls Tryz.prog 65 #[.pointer (some ⟨c.rb,0,none⟩),.string x] w fun e w'=>e= .returned (.bool false)∧ ∃ k,w'=w.drewN k:=by
 have:=sees_any x c w n s h
 rwa [decide_eq_false hx] at this
theorem at_tok {T:List Tk.Tok} {n:Nat} {t:Tk.Tok} (h:T[n]? =some t):n<T.length∧T.drop n=t::T.drop (n+1):=by
 obtain ⟨h1,h2⟩:=List.getElem?_eq_some_iff.1 h
 exact ⟨h1,by rw [List.drop_eq_getElem_cons h1,h2]⟩
def Ok (c:Cx) (w:World) (v:Value) (n:Nat) (s:Sx.St) (e:Ending) (w':World):Prop:=e= .returned v∧RD c w' n s∧Kp [c.rb] w w'
set_option maxHeartbeats 400000 in
theorem skip_ok (x:ByteArray) {m:Nat} {c:Cx} {w:World} {n:Nat} {s:Sx.St} (hm:Bg.skp x.data.toList c.full n=some m) (h:RD c w n s) (hx:x.data.toList ≠ []:=by simp):
  Calls Tryz.prog 91 #[.pointer (some ⟨c.rb,0,none⟩),.string x] w (Ok c w (.tuple #[]) m s):=by
 rcases oif hm with ⟨ht,hm⟩|⟨_,hm⟩
 rotate_left
 ·cases hm
 cases hm
 have HO:=hide (sees_yes x ht h)
 have HH:=hide h
 have hlt:=txt_lt ht hx
 have c1:=h.c1
 have fz:=h.fz 1
 have hm:=h.hm
 clear h ht hx
 go_enter Tryz.func91,Tryz.ntmps91
 go_wp2_with fail
 refine HO.out.mono ?_
 rintro e w1 ⟨rfl,k,rfl⟩
 go_wp2
 go_end0
 exact ⟨rfl,(HH.out.drewN k).step hlt,((Kp.refl _ _).drewN k).setCell (by simp) _⟩
theorem tok_of {k:Int} {T:List Tk.Tok} {n m:Nat} {t:Tk.Tok} (h:Bg.tok k T n=some (t,m)):T[n]? =some t∧t.kind=k∧m=n+1:=by
 obtain ⟨t',h1,h2⟩:=obind h
 rcases oif h2 with ⟨hk,h3⟩|⟨_,h3⟩
 ·cases h3
  exact ⟨h1,hk,rfl⟩
 ·cases h3
set_option maxHeartbeats 1000000 in
theorem tokenOf_ok {k:Int} {c:Cx} {w:World} {n m:Nat} {s:Sx.St} {t:Tk.Tok} (hT:Bg.tok k c.full n=some (t,m)) (h:RD c w n s):
  Calls Tryz.prog 126 #[.pointer (some ⟨c.rb,0,none⟩),.int .i64 k] w (Ok c w (.agg #[.int .i64 t.kind,.int .i64 (t.at':Int),.string (bs t.text),.int .i64 t.n]) m s):=by
 obtain ⟨ht,hk,rfl⟩:=tok_of hT
 clear hT
 obtain ⟨hlt,hd⟩:=at_tok ht
 have HO:=hide (fun w h=>seesKind_any k c w n s h)
 have HH:=hide h
 have HK:Hid (Sx.hasKind k (c.full.drop n)=true):=by
  show _=_
  rw [hd]
  simp [Sx.hasKind,hk]
 obtain ⟨ha,hne⟩:=h.ne (fun e=>by rw [e] at hlt;simp at hlt)
 obtain ⟨k0,k1,k2,k3,_⟩:=h.tk n t ht
 have c0:=h.c0
 have c1:=h.c1
 have fz:=h.fz 1
 have hm:=h.hm
 have hr:=h.rlt
 have htb:c.tb<w.heap.size:=World.block_lt_of_cell? w _ k0
 have htb': ¬ c.tb=w.heap.size:=by omega
 have hne':c.rb ≠ c.tb:=fun e=>hne e.symm
 clear h hd ht hk
 rw [ha] at c0
 clear ha
 go_enter Tryz.func126,Tryz.ntmps126
 go_wp2_with fail
 refine (HO.out _ (HH.out.alloc _)).mono ?_
 rintro e w1 ⟨rfl,k,rfl⟩
 rw [HK.out]
 go_wp2
 go_region
 go_wp2
 have HB:=HH.out.lt
 refine bodyPost_ret (v:= .agg #[.int .i64 t.kind,.int .i64 (t.at':Int),.string (bs t.text),.int .i64 t.n]) (by simp [results,Tryz.results126,go_sem]) rfl ⟨rfl,?_,?_⟩
 ·exact (((((((HH.out.alloc _).drewN k).step hlt).set_new HB (Nat.le_refl _) _).set_new HB (Nat.le_refl _) _).set_new HB (Nat.le_refl _) _).set_new HB (Nat.le_refl _) _).drew
 ·exact Kp.drew (Kp.nb (Kp.nb (Kp.nb (Kp.nb (Kp.rb (((Kp.refl _ _).alloc _).drewN k) _ _) (Nat.le_refl _) _ _) (Nat.le_refl _) _ _) (Nat.le_refl _) _ _) (Nat.le_refl _) _ _)
set_option maxRecDepth 100000 in
set_option maxHeartbeats 400000 in
theorem name_ok {c:Cx} {w:World} {n m:Nat} {s:Sx.St} {t:Tk.Tok} (ht:Bg.tok 2 c.full n=some (t,m)) (h:RD c w n s):
  Calls Tryz.prog 92 #[.pointer (some ⟨c.rb,0,none⟩)] w (Ok c w (.string (bs t.text)) m s):=by
 have HO:=hide (tokenOf_ok ht h)
 clear h
 go_enter Tryz.func92,Tryz.ntmps92
 go_wp2_with fail
 refine HO.out.mono ?_
 rintro e w1 ⟨rfl,hp⟩
 have HP:=hide hp
 clear hp
 have hfd:=field_text (.int .i64 t.kind) (.int .i64 (t.at':Int)) (.int .i64 t.n) (.string (bs t.text))
 go_wp2
 go_ret
 exact ⟨rfl,HP.out⟩
set_option maxRecDepth 100000 in
set_option maxHeartbeats 400000 in
theorem number_ok {c:Cx} {w:World} {n m:Nat} {s:Sx.St} {t:Tk.Tok} (ht:Bg.tok 3 c.full n=some (t,m)) (h:RD c w n s):
  Calls Tryz.prog 165 #[.pointer (some ⟨c.rb,0,none⟩)] w (Ok c w (.int .i64 t.n) m s):=by
 have HO:=hide (tokenOf_ok ht h)
 clear h
 go_enter Tryz.func165,Tryz.ntmps165
 go_wp2_with fail
 refine HO.out.mono ?_
 rintro e w1 ⟨rfl,hp⟩
 have HP:=hide hp
 clear hp
 have hfd:=field_n (.int .i64 t.kind) (.int .i64 (t.at':Int)) (.string (bs t.text)) (.int .i64 t.n)
 go_wp2
 go_ret
 exact ⟨rfl,HP.out⟩
end Go.Proofs.YtcdcoiobpbdmpaaGreatDoor
namespace Go.Proofs.YtcdcoiobpbdmpaaGreatDoor
open Go.RowKit
theorem RD.set4 {c:Cx} {w:World} {n:Nat} {s:Sx.St} {B b:Nat} (h:RD c w n s) (hB:c.below B) (hb:B≤b) (v0 v1 v2 v3:Value):RD c ((((w.setCell ⟨b,0,none⟩ v0).setCell ⟨b,1,none⟩ v1).setCell ⟨b,2,none⟩ v2).setCell ⟨b,3,none⟩ v3) n s:=
 (((h.set_new hB hb _).set_new hB hb _).set_new hB hb _).set_new hB hb _
theorem Kp.nb4 {S:List Nat} {a w:World} {b:Nat} (h:Kp S a w) (hb:a.heap.size≤b) (v0 v1 v2 v3:Value):Kp S a ((((w.setCell ⟨b,0,none⟩ v0).setCell ⟨b,1,none⟩ v1).setCell ⟨b,2,none⟩ v2).setCell ⟨b,3,none⟩ v3):=
 Kp.nb (Kp.nb (Kp.nb (Kp.nb h hb _ _) hb _ _) hb _ _) hb _ _
structure X4 (w:World) (b:Nat) (v0 v1 v2 v3:Value):Prop where
 c0:w.cell? ⟨b,0,none⟩=some v0
 c1:w.cell? ⟨b,1,none⟩=some v1
 c2:w.cell? ⟨b,2,none⟩=some v2
 c3:w.cell? ⟨b,3,none⟩=some v3
 fz: ∀ o,w.frozen? ⟨b,o,none⟩=false
theorem X4.keep {w w':World} {S:List Nat} {b:Nat} {v0 v1 v2 v3:Value} (h:X4 w b v0 v1 v2 v3) (k:Kp S w w') (hn:b ∉ S):X4 w' b v0 v1 v2 v3:=
 ⟨k.some h.c0 hn,k.some h.c1 hn,k.some h.c2 hn,k.some h.c3 hn,fun o=>(k.frozen (p:=⟨b,o,none⟩) (World.block_lt_of_cell? w ⟨b,0,none⟩ h.c0) hn).trans (h.fz o)⟩
theorem X4.new (w:World) (v0 v1 v2 v3:Value) (t:TypeId):X4 (w.alloc (.cells #[v0,v1,v2,v3] t)) w.heap.size v0 v1 v2 v3:=
 ⟨by simp [go_sem],by simp [go_sem],by simp [go_sem],by simp [go_sem],fun o=>by simp [go_sem]⟩
theorem ex_of {T:List Tk.Tok} {n m:Nat} {x:Int × List UInt8 × Int} (h:Bg.ex T n=some (x,m)): ∃ t,T[n]? =some t∧m=n+1∧ ¬ Sx.txt (T.drop n)=[40]∧ ¬ Sx.txt (T.drop n)=[45]∧(∀ y,y ∈ ([[42],[43],[45],[60],[61,61]]:List (List UInt8))→ ¬ Sx.txt (T.drop m)=y)∧
  ((t.kind=3∧x=(1,[],t.n))∨(t.kind=2∧x=(2,t.text,0))):=by
 obtain ⟨t,h1,h2⟩:=obind h
 have hd:=(at_tok h1).2
 rcases oif h2 with ⟨_,h3⟩|⟨hn,h3⟩
 ·cases h3
 have ht:Sx.txt (T.drop n)=t.text:=by rw [hd];rfl
 rw [ht]
 have q: ∀ y,y ∈ ([[42],[43],[45],[60],[61,61]]:List (List UInt8))→ ¬ Sx.txt (T.drop (n+1))=y:=fun y hy e=>hn (.inr (.inr (e ▸ hy)))
 rcases oif h3 with ⟨hk,h4⟩|⟨_,h4⟩
 ·cases h4
  exact ⟨t,h1,rfl,fun e=>hn (.inl e),fun e=>hn (.inr (.inl e)),q,.inl ⟨hk,rfl⟩⟩
 rcases oif h4 with ⟨hk,h4⟩|⟨_,h4⟩
 ·cases h4
  exact ⟨t,h1,rfl,fun e=>hn (.inl e),fun e=>hn (.inr (.inl e)),q,.inr ⟨hk,rfl⟩⟩
 ·cases h4
def lf (x:Int × List UInt8 × Int):Value:= .agg #[.int .i64 x.1,.string (bs x.2.1),.int .i64 x.2.2,.slice none 0 0]
set_option maxRecDepth 100000 in
set_option maxHeartbeats 1000000 in
theorem unit_ok {x:Int × List UInt8 × Int} {c:Cx} {w:World} {n m:Nat} {s:Sx.St} (hx:Bg.ex c.full n=some (x,m)) (h:RD c w n s):
  Calls Tryz.prog 195 #[.pointer (some ⟨c.rb,0,none⟩)] w (Ok c w (lf x) m s.part):=by
 obtain ⟨t,ht,rfl,h40,h45,-,hx⟩:=ex_of hx
 obtain ⟨hlt,hd⟩:=at_tok ht
 have H40:=hide h40
 have H45:=hide h45
 have HH:=hide h
 have HB:=hide h.lt
 have hr:=h.rlt
 have hn0:w.heap.size ∉ [c.rb]:=by simp;omega
 have hpt:s.parts+1+(c.full.length - (n+1))≤12000:=by have h2:=h.b6;omega
 have HP:=hide hpt
 have HK:Hid (Sx.hasKind 3 (c.full.drop n)=(t.kind == 3)):=by show _=_;rw [hd];rfl
 have HN:Hid (∀ k,t.kind=k→Bg.tok k c.full n=some (t,n+1)):=fun k hk=>by simp [Bg.tok,ht,hk]
 clear h h40 h45 hpt hd ht
 go_enter Tryz.func195,Tryz.ntmps195
 go_wp2_with fail
 refine (sees_no ⟨#[40]⟩ H40.out (by exact HH.out.alloc _)).mono ?_
 rintro e w1 ⟨rfl,k0,rfl⟩
 go_wp2_with fail
 refine (sees_no ⟨#[45]⟩ H45.out (by exact (HH.out.alloc _).drewN k0)).mono ?_
 rintro e w1 ⟨rfl,k1,rfl⟩
 go_wp2_with fail
 refine (seesKind_any 3 c _ n s (by exact (HH.out.alloc _).drewN _)).mono ?_
 rintro e w1 ⟨rfl,k2,rfl⟩
 rw [HK.out]
 rcases hx with ⟨hk,rfl⟩|⟨hk,rfl⟩
 ·have e3:(t.kind == 3)=true:=by simp [hk]
  rw [e3]
  have HT:=hide (HN.out 3 hk)
  go_wp2_with fail
  refine (number_ok HT.out (by exact (HH.out.alloc _).drewN _)).mono ?_
  rintro e w2 ⟨rfl,hd2,hk2⟩
  have HZ:=hide (((X4.new w (.int .i64 0) (.string ⟨#[]⟩) (.int .i64 0) (.slice none 0 0) 112).keep ((Kp.refl [] _).drewN _) (by simp)).keep hk2 hn0)
  have HD2:=hide hd2
  have K2:Hid (Kp [c.rb] w w2):=(((Kp.refl _ _).alloc _).drewN _).trans hk2
  clear hd2 hk2
  go_wp2_with fail
  refine (part_any 1 ⟨#[]⟩ t.n none 0 0 c _ _ s HD2.out HP.out).mono ?_
  rintro e w4 ⟨rfl,hd4,hk4⟩
  obtain ⟨y0,y1,y2,y3,gy⟩:=HZ.out.keep hk4 hn0
  have HD4:=hide hd4
  have HK4:=hide hk4
  clear hd4 hk4
  go_wp2
  refine bodyPost_ret (v:=lf (1,[],t.n)) (by simp [results,Tryz.results195,go_sem,y0,y1,y2,y3,lf,bs]) rfl ⟨rfl,HD4.out.set4 HB.out (Nat.le_refl _) _ _ _ _,(K2.out.trans HK4.out).nb4 (Nat.le_refl _) _ _ _ _⟩
 ·have e3:(t.kind == 3)=false:=by simp [hk]
  rw [e3]
  have HT:=hide (HN.out 2 hk)
  go_wp2_with fail
  refine (name_ok HT.out (by exact (HH.out.alloc _).drewN _)).mono ?_
  rintro e w2 ⟨rfl,hd2,hk2⟩
  have HZ:=hide (((X4.new w (.int .i64 0) (.string ⟨#[]⟩) (.int .i64 0) (.slice none 0 0) 112).keep ((Kp.refl [] _).drewN _) (by simp)).keep hk2 hn0)
  have HD2:=hide hd2
  have K2:Hid (Kp [c.rb] w w2):=(((Kp.refl _ _).alloc _).drewN _).trans hk2
  clear hd2 hk2
  go_wp2_with fail
  refine (part_any 2 (bs t.text) 0 none 0 0 c _ _ s HD2.out HP.out).mono ?_
  rintro e w4 ⟨rfl,hd4,hk4⟩
  obtain ⟨y0,y1,y2,y3,gy⟩:=HZ.out.keep hk4 hn0
  have HD4:=hide hd4
  have HK4:=hide hk4
  clear hd4 hk4
  go_wp2
  refine bodyPost_ret (v:=lf (2,t.text,0)) (by simp [results,Tryz.results195,go_sem,y0,y1,y2,y3,lf]) rfl ⟨rfl,HD4.out.set4 HB.out (Nat.le_refl _) _ _ _ _,(K2.out.trans HK4.out).nb4 (Nat.le_refl _) _ _ _ _⟩
structure V2 (w:World) (b b':Nat) (x:Int × List UInt8 × Int):Prop where
 z:X4 w b (.int .i64 0) (.string ⟨#[]⟩) (.int .i64 0) (.slice none 0 0)
 x:X4 w b' (.int .i64 x.1) (.string (bs x.2.1)) (.int .i64 x.2.2) (.slice none 0 0)
theorem V2.keep {w w':World} {S:List Nat} {b b':Nat} {x:Int × List UInt8 × Int} (h:V2 w b b' x) (k:Kp S w w') (h1:b ∉ S) (h2:b' ∉ S):V2 w' b b' x:=⟨h.z.keep k h1,h.x.keep k h2⟩
end Go.Proofs.YtcdcoiobpbdmpaaGreatDoor
