import Derived.Test.YtagblibbngmbdaaGreatDoorMai
import Derived.Deep.RegionLaw
import Derived.Deep.RegionHeldLaw
import Derived.Deep.AppendLies
set_option maxRecDepth 100000
set_option maxHeartbeats 2000000
namespace Go.Proofs.YtagblibbngmbdaaGreatDoor
open Go.RowKit
theorem zae {α:Type} {P:Program} {ops:Array Oper} {o:Oper} {a:Act} {w:World} {K:Act→World→Prop} {Q:Exit→Act→World→Prop} {E:Prop} (hgd:o.guard=none) (f:FuncId) (args:Array Value)
  (hrun:(execOp a.eval o).run P w= .ok (.enter f args) w) {c:Cx} {S:List Nat} {enc:World→α→Value→Prop} {r:Sx.Rs α} (hC:Calls P f args w (Post c S w enc r))
  (hpan: ∀ code p rest w',r= .inr (code,p,rest)→Kp S w w'→Q (.panic (gv code p)) a w')
  (hK: ∀ v w' x s' n',r= .inl (x,s',c.full.drop n')→enc w' x v→RD c w' n' s'→Kp S w w'→K (a.put o.dst v) w'):
  if Region.wanted o (yielded ops a.tmps)=true then Oper.wp P o a w K Q else E:=by
 have hw:Region.wanted o (yielded ops a.tmps)=true:=by simp [Region.wanted,hgd]
 rw [if_pos hw]
 unfold Oper.wp
 rw [hrun]
 show Calls P f args w _
 refine hC.mono ?_
 intro e w' hp
 rcases e with v|ch|_
 ·obtain ⟨x,s,n,h1,h2,h3,h4⟩:=hp.ret
  exact hK v w' x s n h1 h2 h3 h4
 ·obtain ⟨code,p,rest,h1,rfl,h3⟩:=hp.pan
  exact hpan code p rest w' h1 h3
 ·rcases r with ⟨x,s,ts⟩|⟨code,p,rest⟩
  ·obtain ⟨_,_,he,_⟩:=hp
   cases he
  ·cases hp.1
structure PB (c:Cx) (w0 w:World) (n:Nat) (s:Sx.St) (sb:Nat) (D at':Int) (A B T:ByteArray) (N:Int) (uE:Value):Prop where
 rd:RD c w n s
 s9:S9 w sb D at' A B T N uE (.slice none 0 0) (.slice none 0 0)
 b0:w.cell? ⟨w0.heap.size,0,none⟩=some (.pointer (some ⟨c.rb,0,none⟩))
 b1:w.cell? ⟨w0.heap.size+1,0,none⟩=some (.pointer (some ⟨sb,0,none⟩))
 kp:Kp [sb,c.rb] w0 w
 rlt:c.rb<w0.heap.size
 slt:sb<w0.heap.size
 ap:c.apart sb
section
variable {c:Cx} {w0 w w1:World} {n n1:Nat} {s s1:Sx.St} {sb:Nat} {D at':Int} {A B T:ByteArray} {N:Int} {uE:Value}
theorem PB.start (h:RD c w n s) (hA:c.apart sb) (hS:S9 w sb D at' A B T N uE (.slice none 0 0) (.slice none 0 0)) (t1 t2:TypeId):
  PB c w ((w.alloc (.cells #[.pointer (some ⟨c.rb,0,none⟩)] t1)).alloc (.cells #[.pointer (some ⟨sb,0,none⟩)] t2)) n s sb D at' A B T N uE:=
 ⟨(h.alloc _).alloc _,hS.keep (S:=[]) (((Kp.refl _ _).alloc _).alloc _) (by simp),by simp [go_sem],by simp [go_sem],((Kp.refl _ _).alloc _).alloc _,h.rlt,hS.lt,hA⟩
theorem PB.go (h:PB c w0 w n s sb D at' A B T N uE) (hd:RD c w1 n1 s1) (hk:Kp [c.rb] w w1):PB c w0 w1 n1 s1 sb D at' A B T N uE:=
 ⟨hd,h.s9.keep hk (by have:=h.ap.1;simp;omega),zaa hk h.b0 (by have:=h.rlt;simp;omega),zaa hk h.b1 (by have:=h.rlt;simp;omega),h.kp.trans (hk.mono (by simp)),h.rlt,h.slt,h.ap⟩
theorem PB.drew (h:PB c w0 w n s sb D at' A B T N uE):PB c w0 w.drew n s sb D at' A B T N uE:=h.go h.rd.drew (Kp.refl _ _).drew
theorem PB.box {v:Value} {o b:Nat} (h:PB c w0 w n s sb D at' A B T N uE) (hb:b<2) (hc:w.cell? ⟨w0.heap.size+b,0,none⟩=some v) (u:Value):(w.setCell ⟨sb,o,none⟩ u).cell? ⟨w0.heap.size+b,0,none⟩=some v:=
 (World.cell?_setCell_far _ _ _ _ (by have:=h.slt;show sb ≠ w0.heap.size+b;omega)).trans hc
theorem PB.setA (h:PB c w0 w n s sb D at' A B T N uE) (x:ByteArray):PB c w0 (w.setCell ⟨sb,2,none⟩ (.string x)) n s sb D at' x B T N uE:=
 ⟨h.rd.set_apart h.ap _ _,h.s9.setA x,h.box (b:=0) (by omega) h.b0 _,h.box (b:=1) (by omega) h.b1 _,Kp.rb h.kp _ _,h.rlt,h.slt,h.ap⟩
theorem PB.setB (h:PB c w0 w n s sb D at' A B T N uE) (x:ByteArray):PB c w0 (w.setCell ⟨sb,3,none⟩ (.string x)) n s sb D at' A x T N uE:=
 ⟨h.rd.set_apart h.ap _ _,h.s9.setB x,h.box (b:=0) (by omega) h.b0 _,h.box (b:=1) (by omega) h.b1 _,Kp.rb h.kp _ _,h.rlt,h.slt,h.ap⟩
theorem PB.setT (h:PB c w0 w n s sb D at' A B T N uE) (x:ByteArray):PB c w0 (w.setCell ⟨sb,4,none⟩ (.string x)) n s sb D at' A B x N uE:=
 ⟨h.rd.set_apart h.ap _ _,h.s9.setT x,h.box (b:=0) (by omega) h.b0 _,h.box (b:=1) (by omega) h.b1 _,Kp.rb h.kp _ _,h.rlt,h.slt,h.ap⟩
theorem PB.setN (h:PB c w0 w n s sb D at' A B T N uE) (x:Int):PB c w0 (w.setCell ⟨sb,5,none⟩ (.int .i64 x)) n s sb D at' A B T x uE:=
 ⟨h.rd.set_apart h.ap _ _,h.s9.setN x,h.box (b:=0) (by omega) h.b0 _,h.box (b:=1) (by omega) h.b1 _,Kp.rb h.kp _ _,h.rlt,h.slt,h.ap⟩
theorem PB.setE (h:PB c w0 w n s sb D at' A B T N uE) (x:Value):PB c w0 (w.setCell ⟨sb,6,none⟩ x) n s sb D at' A B T N x:=
 ⟨h.rd.set_apart h.ap _ _,h.s9.setE x,h.box (b:=0) (by omega) h.b0 _,h.box (b:=1) (by omega) h.b1 _,Kp.rb h.kp _ _,h.rlt,h.slt,h.ap⟩
end
theorem PB.fin {c:Cx} {w0 w:World} {n:Nat} {s:Sx.St} {sb:Nat} {D at':Int} {bA bB bT:ByteArray} {N:Int} {uE:Value} (x:Sx.Flds) (h:PB c w0 w n s sb D at' bA bB bT N uE) (hA:bs x.A=bA) (hB:bs x.B=bB) (hT:bs x.T=bT) (hN:x.n=N)
  (hE: ∃ m a cap,uE= .slice a x.E.length cap∧EL w (fun b=>w0.heap.size≤b) m x.E uE):Post c [sb,c.rb] w0 (encF w0 sb D at') (.inl (x,s,c.full.drop n)) (.returned (.tuple #[])) w:=by
 obtain ⟨m,a,cap,rfl,hE⟩:=hE
 subst hA hB hT hN
 exact ⟨_,n,rfl,⟨rfl,m,a,cap,h.s9,hE⟩,rfl,h.rd,h.kp⟩
theorem zas {α:Type} (m:Sx.Rs Sx.Tr) (g:List Sx.Tr→α):Sx.bnd m (fun x s r=> .inl (g [x],s,r))=Sx.bnd (Sx.bnd m fun x s r=> .inl ([x],s,r)) (fun E s r=> .inl (g E,s,r)):=by
 rcases m with ⟨x,s,r⟩|f<;> rfl
theorem zm1 (f:Nat) (c:Cx) (w:World) (n:Nat) (s:Sx.St) (sb:Nat) (at':Int) (h:RD c w n s) (hA:c.apart sb) (hS:S9 w sb 1 at' ⟨#[]⟩ ⟨#[]⟩ ⟨#[]⟩ 0 (.slice none 0 0) (.slice none 0 0) (.slice none 0 0)) (hf: ¬ Dry (Sx.plain c.e f 1 s (c.full.drop n))):
  Calls Tryz.prog 150 #[.pointer (some ⟨c.rb,0,none⟩),.pointer (some ⟨sb,0,none⟩)] w (Post c [sb,c.rb] w (encF w sb 1 at') (Sx.plain c.e f 1 s (c.full.drop n))):=by
 have HP0:=hide (PB.start h hA hS 106 184)
 have HF:=hide hf
 have HSub:Hid (∀ a b,Kp [c.rb] a b→Kp [sb,c.rb] a b):=fun a b h=>h.mono (by simp)
 have hr:=h.rlt
 have hsl:=hS.lt
 have HSl:Hid (sb<w.heap.size):=hsl
 have HRb:Hid (c.rb<w.heap.size):=hr
 have hne:=hA.1
 have hne':sb ≠ c.rb:=fun e=>hne e.symm
 obtain ⟨c0,c1,c2,c3,c4,c5,c6,c7,c8,cf⟩:=hS
 have q1: ¬ sb=w.heap.size:=by omega
 have q2: ¬ sb=w.heap.size+1:=by omega
 have q3: ¬ c.rb=w.heap.size:=by omega
 have q4: ¬ c.rb=w.heap.size+1:=by omega
 clear h hA hf
 have HE0:Hid (Sx.plain c.e f 1 s (c.full.drop n)=Sx.bnd (Sx.nameOf c.e s (c.full.drop n)) fun A s r=>Sx.bnd (Sx.skp c.e [61] s (r)) fun _ s r=>Sx.bnd ((Sx.bnd (Sx.pe c.e f 0 Sx.d0 s (r)) fun x s r=> .inl ([x],s,r):Sx.Rs (List Sx.Tr))) fun E s r=> .inl ({ Sx.F0 with A:=A,E:=E },s,r)):=by
  show _=_
  unfold Sx.plain Sx.plainB
  first
  |rfl
  |(rw [zas _ (fun E=>({ Sx.F0 with E:=E }:Sx.Flds))];rfl)
  |(simp only [←zas _ (fun E=>({ Sx.F0 with A:=_,E:=E }:Sx.Flds))];rfl)
 go_enter Tryz.func150,Tryz.ntmps150
 go_wp2
 go_region_held_law (fun w'=>w'.cell? ⟨w.heap.size,0,none⟩=some (.pointer (some ⟨c.rb,0,none⟩))∧w'.cell? ⟨w.heap.size+1,0,none⟩=some (.pointer (some ⟨sb,0,none⟩))) ((first|exact ⟨by assumption,by assumption⟩|go_keep))
  ((refine zae rfl 106 #[.pointer (some ⟨c.rb,0,none⟩)] (by go_simp) (zay c _ n s (by exact HP0.out.drew.rd)) (fun code p rest w' hr hk=>⟨rfl,by rw [HE0.out,hr];exact ⟨rfl,HP0.out.drew.kp.trans (HSub.out _ _ hk)⟩⟩) ?_;intro v1 w1 A s1 n1 hm1 hv1 hd1 hk1;unfold encT at hv1;subst hv1;have hP1:=HP0.out.drew.go hd1 hk1;have HM1:=hide hm1;have e01:=hP1.b0;have e11:=hP1.b1;obtain ⟨c01,c11,c21,c31,c41,c51,c61,c71,c81,cf1⟩:=hP1.s9;have HQ1:=hide hP1;clear hm1 hd1 hk1 hP1))
 have HE1:Hid (Sx.plain c.e f 1 s (c.full.drop n)=Sx.bnd (Sx.skp c.e [61] s1 (c.full.drop n1)) fun _ s r=>Sx.bnd ((Sx.bnd (Sx.pe c.e f 0 Sx.d0 s (r)) fun x s r=> .inl ([x],s,r):Sx.Rs (List Sx.Tr))) fun E s r=> .inl ({ Sx.F0 with A:=A,E:=E },s,r)):=by
  show _=_
  rw [HE0.out,HM1.out]
  rfl
 have HP1:=hide (HQ1.out.setA (bs A))
 go_wp2_with fail
 refine (zak ⟨#[61]⟩ (by simp) c _ n1 s1 (by exact HP1.out.rd)).mono ?_
 intro e w2 hp
 rw [show (⟨#[61]⟩:ByteArray).data.toList=[61] from rfl] at hp
 rcases hm2:Sx.skp c.e [61] s1 (c.full.drop n1) with ⟨u2,s2,r2⟩|⟨code,p,rest⟩
 rotate_left
 ·rw [hm2] at hp
  obtain ⟨rfl,hk⟩:=hp
  refine ⟨rfl,?_⟩
  rw [HE1.out,hm2]
  exact ⟨rfl,HP1.out.kp.trans (HSub.out _ _ hk)⟩
 rw [hm2] at hp
 obtain ⟨v2,n2,rfl,hv2,hr2,hd2,hk2⟩:=hp
 have HE2:Hid (Sx.plain c.e f 1 s (c.full.drop n)=Sx.bnd ((Sx.bnd (Sx.pe c.e f 0 Sx.d0 s2 (c.full.drop n2)) fun x s r=> .inl ([x],s,r):Sx.Rs (List Sx.Tr))) fun E s r=> .inl ({ Sx.F0 with A:=A,E:=E },s,r)):=by
  show _=_
  rw [HE1.out,hm2,hr2]
  rfl
 have HP2:=hide (HP1.out.go hd2 hk2)
 have e02:=HP2.out.b0
 have e12:=HP2.out.b1
 obtain ⟨c02,c12,c22,c32,c42,c52,c62,c72,c82,cf2⟩:=HP2.out.s9
 clear hm2 hr2 hd2 hk2 hv2
 have HFE:Hid (¬ Dry (Sx.pe c.e f 0 Sx.d0 s2 (c.full.drop n2))):=by
  have h1:=HF.out
  rw [HE2.out] at h1
  exact Dry.bnd (Dry.bnd h1)
 go_wp2
 go_region_held_law (fun w'=>w'.cell? ⟨w.heap.size,0,none⟩=some (.pointer (some ⟨c.rb,0,none⟩))∧w'.cell? ⟨w.heap.size+1,0,none⟩=some (.pointer (some ⟨sb,0,none⟩))) ((first|exact ⟨by assumption,by assumption⟩|go_keep))
  ((refine zae rfl 170 #[.pointer (some ⟨c.rb,0,none⟩)] (by go_simp) (zbr f c _ n2 s2 (by exact HP2.out.drew.rd) HFE.out) (fun code p rest w' hr hk=>⟨rfl,by rw [HE2.out,hr];exact ⟨rfl,HP2.out.drew.kp.trans (HSub.out _ _ hk)⟩⟩) ?_;intro v3 w3 E s3 n3 hm3 hv3 hd3 hk3;obtain ⟨mE,hv3⟩:=hv3;obtain ⟨aE,capE,hve⟩:=hv3.slice;subst hve;have hP3:=HP2.out.drew.go hd3 hk3;have HM3:=hide hm3;have HV3:=hide hv3;have e03:=hP3.b0;have e13:=hP3.b1;obtain ⟨c03,c13,c23,c33,c43,c53,c63,c73,c83,cf3⟩:=hP3.s9;have HQ3:=hide hP3;clear hm3 hd3 hk3 hP3 hv3))
 have HE3:Hid (Sx.plain c.e f 1 s (c.full.drop n)= .inl ({ Sx.F0 with A:=A,E:=E },s3,c.full.drop n3)):=by
  show _=_
  rw [HE2.out,HM3.out]
  rfl
 have HP3:=hide (HQ3.out.setE (.slice aE E.length capE))
 go_wp2
 go_end0
 rw [HE3.out]
 refine HP3.out.fin _ rfl rfl rfl rfl ⟨mE,aE,capE,rfl,?_⟩
 refine ((HV3.out.base (P':=fun b=>w.heap.size≤b) (fun b _ hb=> ?_)).keep (S:=[sb]) (Kp.rb (Kp.refl _ _) _ _) (by simp;exact HSl.out))
 exact Nat.le_trans HP2.out.drew.kp.size hb
theorem zm2 (f:Nat) (c:Cx) (w:World) (n:Nat) (s:Sx.St) (sb:Nat) (at':Int) (h:RD c w n s) (hA:c.apart sb) (hS:S9 w sb 2 at' ⟨#[]⟩ ⟨#[]⟩ ⟨#[]⟩ 0 (.slice none 0 0) (.slice none 0 0) (.slice none 0 0)) (hf: ¬ Dry (Sx.plain c.e f 2 s (c.full.drop n))):
  Calls Tryz.prog 150 #[.pointer (some ⟨c.rb,0,none⟩),.pointer (some ⟨sb,0,none⟩)] w (Post c [sb,c.rb] w (encF w sb 2 at') (Sx.plain c.e f 2 s (c.full.drop n))):=by
 have HP0:=hide (PB.start h hA hS 106 184)
 have HF:=hide hf
 have HSub:Hid (∀ a b,Kp [c.rb] a b→Kp [sb,c.rb] a b):=fun a b h=>h.mono (by simp)
 have hr:=h.rlt
 have hsl:=hS.lt
 have HSl:Hid (sb<w.heap.size):=hsl
 have HRb:Hid (c.rb<w.heap.size):=hr
 have hne:=hA.1
 have hne':sb ≠ c.rb:=fun e=>hne e.symm
 obtain ⟨c0,c1,c2,c3,c4,c5,c6,c7,c8,cf⟩:=hS
 have q1: ¬ sb=w.heap.size:=by omega
 have q2: ¬ sb=w.heap.size+1:=by omega
 have q3: ¬ c.rb=w.heap.size:=by omega
 have q4: ¬ c.rb=w.heap.size+1:=by omega
 clear h hA hf
 have HE0:Hid (Sx.plain c.e f 2 s (c.full.drop n)=Sx.bnd (Sx.nameOf c.e s (c.full.drop n)) fun A s r=>Sx.bnd (Sx.skp c.e [61] s (r)) fun _ s r=>Sx.bnd ((Sx.bnd (Sx.pe c.e f 0 Sx.d0 s (r)) fun x s r=> .inl ([x],s,r):Sx.Rs (List Sx.Tr))) fun E s r=> .inl ({ Sx.F0 with A:=A,E:=E },s,r)):=by
  show _=_
  unfold Sx.plain Sx.plainB
  first
  |rfl
  |(rw [zas _ (fun E=>({ Sx.F0 with E:=E }:Sx.Flds))];rfl)
  |(simp only [←zas _ (fun E=>({ Sx.F0 with A:=_,E:=E }:Sx.Flds))];rfl)
 go_enter Tryz.func150,Tryz.ntmps150
 go_wp2
 go_region_held_law (fun w'=>w'.cell? ⟨w.heap.size,0,none⟩=some (.pointer (some ⟨c.rb,0,none⟩))∧w'.cell? ⟨w.heap.size+1,0,none⟩=some (.pointer (some ⟨sb,0,none⟩))) ((first|exact ⟨by assumption,by assumption⟩|go_keep))
  ((refine zae rfl 106 #[.pointer (some ⟨c.rb,0,none⟩)] (by go_simp) (zay c _ n s (by exact HP0.out.drew.rd)) (fun code p rest w' hr hk=>⟨rfl,by rw [HE0.out,hr];exact ⟨rfl,HP0.out.drew.kp.trans (HSub.out _ _ hk)⟩⟩) ?_;intro v1 w1 A s1 n1 hm1 hv1 hd1 hk1;unfold encT at hv1;subst hv1;have hP1:=HP0.out.drew.go hd1 hk1;have HM1:=hide hm1;have e01:=hP1.b0;have e11:=hP1.b1;obtain ⟨c01,c11,c21,c31,c41,c51,c61,c71,c81,cf1⟩:=hP1.s9;have HQ1:=hide hP1;clear hm1 hd1 hk1 hP1))
 have HE1:Hid (Sx.plain c.e f 2 s (c.full.drop n)=Sx.bnd (Sx.skp c.e [61] s1 (c.full.drop n1)) fun _ s r=>Sx.bnd ((Sx.bnd (Sx.pe c.e f 0 Sx.d0 s (r)) fun x s r=> .inl ([x],s,r):Sx.Rs (List Sx.Tr))) fun E s r=> .inl ({ Sx.F0 with A:=A,E:=E },s,r)):=by
  show _=_
  rw [HE0.out,HM1.out]
  rfl
 have HP1:=hide (HQ1.out.setA (bs A))
 go_wp2_with fail
 refine (zak ⟨#[61]⟩ (by simp) c _ n1 s1 (by exact HP1.out.rd)).mono ?_
 intro e w2 hp
 rw [show (⟨#[61]⟩:ByteArray).data.toList=[61] from rfl] at hp
 rcases hm2:Sx.skp c.e [61] s1 (c.full.drop n1) with ⟨u2,s2,r2⟩|⟨code,p,rest⟩
 rotate_left
 ·rw [hm2] at hp
  obtain ⟨rfl,hk⟩:=hp
  refine ⟨rfl,?_⟩
  rw [HE1.out,hm2]
  exact ⟨rfl,HP1.out.kp.trans (HSub.out _ _ hk)⟩
 rw [hm2] at hp
 obtain ⟨v2,n2,rfl,hv2,hr2,hd2,hk2⟩:=hp
 have HE2:Hid (Sx.plain c.e f 2 s (c.full.drop n)=Sx.bnd ((Sx.bnd (Sx.pe c.e f 0 Sx.d0 s2 (c.full.drop n2)) fun x s r=> .inl ([x],s,r):Sx.Rs (List Sx.Tr))) fun E s r=> .inl ({ Sx.F0 with A:=A,E:=E },s,r)):=by
  show _=_
  rw [HE1.out,hm2,hr2]
  rfl
 have HP2:=hide (HP1.out.go hd2 hk2)
 have e02:=HP2.out.b0
 have e12:=HP2.out.b1
 obtain ⟨c02,c12,c22,c32,c42,c52,c62,c72,c82,cf2⟩:=HP2.out.s9
 clear hm2 hr2 hd2 hk2 hv2
 have HFE:Hid (¬ Dry (Sx.pe c.e f 0 Sx.d0 s2 (c.full.drop n2))):=by
  have h1:=HF.out
  rw [HE2.out] at h1
  exact Dry.bnd (Dry.bnd h1)
 go_wp2
 go_region_held_law (fun w'=>w'.cell? ⟨w.heap.size,0,none⟩=some (.pointer (some ⟨c.rb,0,none⟩))∧w'.cell? ⟨w.heap.size+1,0,none⟩=some (.pointer (some ⟨sb,0,none⟩))) ((first|exact ⟨by assumption,by assumption⟩|go_keep))
  ((refine zae rfl 170 #[.pointer (some ⟨c.rb,0,none⟩)] (by go_simp) (zbr f c _ n2 s2 (by exact HP2.out.drew.rd) HFE.out) (fun code p rest w' hr hk=>⟨rfl,by rw [HE2.out,hr];exact ⟨rfl,HP2.out.drew.kp.trans (HSub.out _ _ hk)⟩⟩) ?_;intro v3 w3 E s3 n3 hm3 hv3 hd3 hk3;obtain ⟨mE,hv3⟩:=hv3;obtain ⟨aE,capE,hve⟩:=hv3.slice;subst hve;have hP3:=HP2.out.drew.go hd3 hk3;have HM3:=hide hm3;have HV3:=hide hv3;have e03:=hP3.b0;have e13:=hP3.b1;obtain ⟨c03,c13,c23,c33,c43,c53,c63,c73,c83,cf3⟩:=hP3.s9;have HQ3:=hide hP3;clear hm3 hd3 hk3 hP3 hv3))
 have HE3:Hid (Sx.plain c.e f 2 s (c.full.drop n)= .inl ({ Sx.F0 with A:=A,E:=E },s3,c.full.drop n3)):=by
  show _=_
  rw [HE2.out,HM3.out]
  rfl
 have HP3:=hide (HQ3.out.setE (.slice aE E.length capE))
 go_wp2
 go_end0
 rw [HE3.out]
 refine HP3.out.fin _ rfl rfl rfl rfl ⟨mE,aE,capE,rfl,?_⟩
 refine ((HV3.out.base (P':=fun b=>w.heap.size≤b) (fun b _ hb=> ?_)).keep (S:=[sb]) (Kp.rb (Kp.refl _ _) _ _) (by simp;exact HSl.out))
 exact Nat.le_trans HP2.out.drew.kp.size hb
theorem zm3 (f:Nat) (c:Cx) (w:World) (n:Nat) (s:Sx.St) (sb:Nat) (at':Int) (h:RD c w n s) (hA:c.apart sb) (hS:S9 w sb 3 at' ⟨#[]⟩ ⟨#[]⟩ ⟨#[]⟩ 0 (.slice none 0 0) (.slice none 0 0) (.slice none 0 0)) (hf: ¬ Dry (Sx.plain c.e f 3 s (c.full.drop n))):
  Calls Tryz.prog 150 #[.pointer (some ⟨c.rb,0,none⟩),.pointer (some ⟨sb,0,none⟩)] w (Post c [sb,c.rb] w (encF w sb 3 at') (Sx.plain c.e f 3 s (c.full.drop n))):=by
 have HP0:=hide (PB.start h hA hS 106 184)
 have HF:=hide hf
 have HSub:Hid (∀ a b,Kp [c.rb] a b→Kp [sb,c.rb] a b):=fun a b h=>h.mono (by simp)
 have hr:=h.rlt
 have hsl:=hS.lt
 have HSl:Hid (sb<w.heap.size):=hsl
 have HRb:Hid (c.rb<w.heap.size):=hr
 have hne:=hA.1
 have hne':sb ≠ c.rb:=fun e=>hne e.symm
 obtain ⟨c0,c1,c2,c3,c4,c5,c6,c7,c8,cf⟩:=hS
 have q1: ¬ sb=w.heap.size:=by omega
 have q2: ¬ sb=w.heap.size+1:=by omega
 have q3: ¬ c.rb=w.heap.size:=by omega
 have q4: ¬ c.rb=w.heap.size+1:=by omega
 clear h hA hf
 have HE0:Hid (Sx.plain c.e f 3 s (c.full.drop n)=Sx.bnd ((Sx.bnd (Sx.pe c.e f 0 Sx.d0 s (c.full.drop n)) fun x s r=> .inl ([x],s,r):Sx.Rs (List Sx.Tr))) fun E s r=> .inl ({ Sx.F0 with E:=E },s,r)):=by
  show _=_
  unfold Sx.plain Sx.plainB
  first
  |rfl
  |(rw [zas _ (fun E=>({ Sx.F0 with E:=E }:Sx.Flds))];rfl)
  |(simp only [←zas _ (fun E=>({ Sx.F0 with A:=_,E:=E }:Sx.Flds))];rfl)
 go_enter Tryz.func150,Tryz.ntmps150
 have HFE:Hid (¬ Dry (Sx.pe c.e f 0 Sx.d0 s (c.full.drop n))):=by
  have h1:=HF.out
  rw [HE0.out] at h1
  exact Dry.bnd (Dry.bnd h1)
 go_wp2
 go_region_held_law (fun w'=>w'.cell? ⟨w.heap.size,0,none⟩=some (.pointer (some ⟨c.rb,0,none⟩))∧w'.cell? ⟨w.heap.size+1,0,none⟩=some (.pointer (some ⟨sb,0,none⟩))) ((first|exact ⟨by assumption,by assumption⟩|go_keep))
  ((refine zae rfl 170 #[.pointer (some ⟨c.rb,0,none⟩)] (by go_simp) (zbr f c _ n s (by exact HP0.out.drew.rd) HFE.out) (fun code p rest w' hr hk=>⟨rfl,by rw [HE0.out,hr];exact ⟨rfl,HP0.out.drew.kp.trans (HSub.out _ _ hk)⟩⟩) ?_;intro v1 w1 E s1 n1 hm1 hv1 hd1 hk1;obtain ⟨mE,hv1⟩:=hv1;obtain ⟨aE,capE,hve⟩:=hv1.slice;subst hve;have hP1:=HP0.out.drew.go hd1 hk1;have HM1:=hide hm1;have HV1:=hide hv1;have e01:=hP1.b0;have e11:=hP1.b1;obtain ⟨c01,c11,c21,c31,c41,c51,c61,c71,c81,cf1⟩:=hP1.s9;have HQ1:=hide hP1;clear hm1 hd1 hk1 hP1 hv1))
 have HE1:Hid (Sx.plain c.e f 3 s (c.full.drop n)= .inl ({ Sx.F0 with E:=E },s1,c.full.drop n1)):=by
  show _=_
  rw [HE0.out,HM1.out]
  rfl
 have HP1:=hide (HQ1.out.setE (.slice aE E.length capE))
 go_wp2
 go_end0
 rw [HE1.out]
 refine HP1.out.fin _ rfl rfl rfl rfl ⟨mE,aE,capE,rfl,?_⟩
 refine ((HV1.out.base (P':=fun b=>w.heap.size≤b) (fun b _ hb=> ?_)).keep (S:=[sb]) (Kp.rb (Kp.refl _ _) _ _) (by simp;exact HSl.out))
 exact Nat.le_trans HP0.out.drew.kp.size hb
theorem zm4 (f:Nat) (c:Cx) (w:World) (n:Nat) (s:Sx.St) (sb:Nat) (at':Int) (h:RD c w n s) (hA:c.apart sb) (hS:S9 w sb 4 at' ⟨#[]⟩ ⟨#[]⟩ ⟨#[]⟩ 0 (.slice none 0 0) (.slice none 0 0) (.slice none 0 0)) (hf: ¬ Dry (Sx.plain c.e f 4 s (c.full.drop n))):
  Calls Tryz.prog 150 #[.pointer (some ⟨c.rb,0,none⟩),.pointer (some ⟨sb,0,none⟩)] w (Post c [sb,c.rb] w (encF w sb 4 at') (Sx.plain c.e f 4 s (c.full.drop n))):=by
 have HP0:=hide (PB.start h hA hS 106 184)
 have HF:=hide hf
 have HSub:Hid (∀ a b,Kp [c.rb] a b→Kp [sb,c.rb] a b):=fun a b h=>h.mono (by simp)
 have hr:=h.rlt
 have hsl:=hS.lt
 have HSl:Hid (sb<w.heap.size):=hsl
 have HRb:Hid (c.rb<w.heap.size):=hr
 have hne:=hA.1
 have hne':sb ≠ c.rb:=fun e=>hne e.symm
 obtain ⟨c0,c1,c2,c3,c4,c5,c6,c7,c8,cf⟩:=hS
 have q1: ¬ sb=w.heap.size:=by omega
 have q2: ¬ sb=w.heap.size+1:=by omega
 have q3: ¬ c.rb=w.heap.size:=by omega
 have q4: ¬ c.rb=w.heap.size+1:=by omega
 clear h hA hf
 have HE0:Hid (Sx.plain c.e f 4 s (c.full.drop n)=Sx.bnd (Sx.nameOf c.e s (c.full.drop n)) fun A s r=>Sx.bnd (Sx.nameOf c.e s (r)) fun B s r=>Sx.bnd (Sx.ty c.e [] s (r)) fun T s r=>Sx.bnd (Sx.numOf c.e s (r)) fun nn s r=> .inl ({ Sx.F0 with A:=A,B:=B,T:=T,n:=nn },s,r)):=by
  show _=_
  unfold Sx.plain Sx.plainB
  first
  |rfl
  |(rw [zas _ (fun E=>({ Sx.F0 with E:=E }:Sx.Flds))];rfl)
  |(simp only [←zas _ (fun E=>({ Sx.F0 with A:=_,E:=E }:Sx.Flds))];rfl)
 go_enter Tryz.func150,Tryz.ntmps150
 go_wp2
 go_region_held_law (fun w'=>w'.cell? ⟨w.heap.size,0,none⟩=some (.pointer (some ⟨c.rb,0,none⟩))∧w'.cell? ⟨w.heap.size+1,0,none⟩=some (.pointer (some ⟨sb,0,none⟩))) ((first|exact ⟨by assumption,by assumption⟩|go_keep))
  ((refine zae rfl 106 #[.pointer (some ⟨c.rb,0,none⟩)] (by go_simp) (zay c _ n s (by exact HP0.out.drew.rd)) (fun code p rest w' hr hk=>⟨rfl,by rw [HE0.out,hr];exact ⟨rfl,HP0.out.drew.kp.trans (HSub.out _ _ hk)⟩⟩) ?_;intro v1 w1 A s1 n1 hm1 hv1 hd1 hk1;unfold encT at hv1;subst hv1;have hP1:=HP0.out.drew.go hd1 hk1;have HM1:=hide hm1;have e01:=hP1.b0;have e11:=hP1.b1;obtain ⟨c01,c11,c21,c31,c41,c51,c61,c71,c81,cf1⟩:=hP1.s9;have HQ1:=hide hP1;clear hm1 hd1 hk1 hP1))
 have HE1:Hid (Sx.plain c.e f 4 s (c.full.drop n)=Sx.bnd (Sx.nameOf c.e s1 (c.full.drop n1)) fun B s r=>Sx.bnd (Sx.ty c.e [] s (r)) fun T s r=>Sx.bnd (Sx.numOf c.e s (r)) fun nn s r=> .inl ({ Sx.F0 with A:=A,B:=B,T:=T,n:=nn },s,r)):=by
  show _=_
  rw [HE0.out,HM1.out]
  rfl
 have HP1:=hide (HQ1.out.setA (bs A))
 go_wp2
 go_region_held_law (fun w'=>w'.cell? ⟨w.heap.size,0,none⟩=some (.pointer (some ⟨c.rb,0,none⟩))∧w'.cell? ⟨w.heap.size+1,0,none⟩=some (.pointer (some ⟨sb,0,none⟩))) ((first|exact ⟨by assumption,by assumption⟩|go_keep))
  ((refine zae rfl 106 #[.pointer (some ⟨c.rb,0,none⟩)] (by go_simp) (zay c _ n1 s1 (by exact HP1.out.drew.rd)) (fun code p rest w' hr hk=>⟨rfl,by rw [HE1.out,hr];exact ⟨rfl,HP1.out.drew.kp.trans (HSub.out _ _ hk)⟩⟩) ?_;intro v2 w2 B s2 n2 hm2 hv2 hd2 hk2;unfold encT at hv2;subst hv2;have hP2:=HP1.out.drew.go hd2 hk2;have HM2:=hide hm2;have e02:=hP2.b0;have e12:=hP2.b1;obtain ⟨c02,c12,c22,c32,c42,c52,c62,c72,c82,cf2⟩:=hP2.s9;have HQ2:=hide hP2;clear hm2 hd2 hk2 hP2))
 have HE2:Hid (Sx.plain c.e f 4 s (c.full.drop n)=Sx.bnd (Sx.ty c.e [] s2 (c.full.drop n2)) fun T s r=>Sx.bnd (Sx.numOf c.e s (r)) fun nn s r=> .inl ({ Sx.F0 with A:=A,B:=B,T:=T,n:=nn },s,r)):=by
  show _=_
  rw [HE1.out,HM2.out]
  rfl
 have HP2:=hide (HQ2.out.setB (bs B))
 go_wp2
 go_region_held_law (fun w'=>w'.cell? ⟨w.heap.size,0,none⟩=some (.pointer (some ⟨c.rb,0,none⟩))∧w'.cell? ⟨w.heap.size+1,0,none⟩=some (.pointer (some ⟨sb,0,none⟩))) ((first|exact ⟨by assumption,by assumption⟩|go_keep))
  ((refine zae rfl 109 #[.pointer (some ⟨c.rb,0,none⟩)] (by go_simp) (zcu c _ n2 s2 (by exact HP2.out.drew.rd)) (fun code p rest w' hr hk=>⟨rfl,by rw [HE2.out,hr];exact ⟨rfl,HP2.out.drew.kp.trans (HSub.out _ _ hk)⟩⟩) ?_;intro v3 w3 T s3 n3 hm3 hv3 hd3 hk3;unfold encT at hv3;subst hv3;have hP3:=HP2.out.drew.go hd3 hk3;have HM3:=hide hm3;have e03:=hP3.b0;have e13:=hP3.b1;obtain ⟨c03,c13,c23,c33,c43,c53,c63,c73,c83,cf3⟩:=hP3.s9;have HQ3:=hide hP3;clear hm3 hd3 hk3 hP3))
 have HE3:Hid (Sx.plain c.e f 4 s (c.full.drop n)=Sx.bnd (Sx.numOf c.e s3 (c.full.drop n3)) fun nn s r=> .inl ({ Sx.F0 with A:=A,B:=B,T:=T,n:=nn },s,r)):=by
  show _=_
  rw [HE2.out,HM3.out]
  rfl
 have HP3:=hide (HQ3.out.setT (bs T))
 go_wp2
 go_region_held_law (fun w'=>w'.cell? ⟨w.heap.size,0,none⟩=some (.pointer (some ⟨c.rb,0,none⟩))∧w'.cell? ⟨w.heap.size+1,0,none⟩=some (.pointer (some ⟨sb,0,none⟩))) ((first|exact ⟨by assumption,by assumption⟩|go_keep))
  ((refine zae rfl 171 #[.pointer (some ⟨c.rb,0,none⟩)] (by go_simp) (zfg c _ n3 s3 (by exact HP3.out.drew.rd)) (fun code p rest w' hr hk=>⟨rfl,by rw [HE3.out,hr];exact ⟨rfl,HP3.out.drew.kp.trans (HSub.out _ _ hk)⟩⟩) ?_;intro v4 w4 nn s4 n4 hm4 hv4 hd4 hk4;unfold encN at hv4;subst hv4;have hP4:=HP3.out.drew.go hd4 hk4;have HM4:=hide hm4;have e04:=hP4.b0;have e14:=hP4.b1;obtain ⟨c04,c14,c24,c34,c44,c54,c64,c74,c84,cf4⟩:=hP4.s9;have HQ4:=hide hP4;clear hm4 hd4 hk4 hP4))
 have HE4:Hid (Sx.plain c.e f 4 s (c.full.drop n)= .inl ({ Sx.F0 with A:=A,B:=B,T:=T,n:=nn },s4,c.full.drop n4)):=by
  show _=_
  rw [HE3.out,HM4.out]
  rfl
 have HP4:=hide (HQ4.out.setN nn)
 go_wp2
 go_end0
 rw [HE4.out]
 exact HP4.out.fin _ rfl rfl rfl rfl ⟨1,none,0,rfl,EL.nil _ _ _ _⟩
theorem zm5 (f:Nat) (c:Cx) (w:World) (n:Nat) (s:Sx.St) (sb:Nat) (at':Int) (h:RD c w n s) (hA:c.apart sb) (hS:S9 w sb 5 at' ⟨#[]⟩ ⟨#[]⟩ ⟨#[]⟩ 0 (.slice none 0 0) (.slice none 0 0) (.slice none 0 0)) (hf: ¬ Dry (Sx.plain c.e f 5 s (c.full.drop n))):
  Calls Tryz.prog 150 #[.pointer (some ⟨c.rb,0,none⟩),.pointer (some ⟨sb,0,none⟩)] w (Post c [sb,c.rb] w (encF w sb 5 at') (Sx.plain c.e f 5 s (c.full.drop n))):=by
 have HP0:=hide (PB.start h hA hS 106 184)
 have HF:=hide hf
 have HSub:Hid (∀ a b,Kp [c.rb] a b→Kp [sb,c.rb] a b):=fun a b h=>h.mono (by simp)
 have hr:=h.rlt
 have hsl:=hS.lt
 have HSl:Hid (sb<w.heap.size):=hsl
 have HRb:Hid (c.rb<w.heap.size):=hr
 have hne:=hA.1
 have hne':sb ≠ c.rb:=fun e=>hne e.symm
 obtain ⟨c0,c1,c2,c3,c4,c5,c6,c7,c8,cf⟩:=hS
 have q1: ¬ sb=w.heap.size:=by omega
 have q2: ¬ sb=w.heap.size+1:=by omega
 have q3: ¬ c.rb=w.heap.size:=by omega
 have q4: ¬ c.rb=w.heap.size+1:=by omega
 clear h hA hf
 have HE0:Hid (Sx.plain c.e f 5 s (c.full.drop n)=Sx.bnd (Sx.nameOf c.e s (c.full.drop n)) fun A s r=>Sx.bnd (Sx.nameOf c.e s (r)) fun B s r=> .inl ({ Sx.F0 with A:=A,B:=B },s,r)):=by
  show _=_
  unfold Sx.plain Sx.plainB
  first
  |rfl
  |(rw [zas _ (fun E=>({ Sx.F0 with E:=E }:Sx.Flds))];rfl)
  |(simp only [←zas _ (fun E=>({ Sx.F0 with A:=_,E:=E }:Sx.Flds))];rfl)
 go_enter Tryz.func150,Tryz.ntmps150
 go_wp2
 go_region_held_law (fun w'=>w'.cell? ⟨w.heap.size,0,none⟩=some (.pointer (some ⟨c.rb,0,none⟩))∧w'.cell? ⟨w.heap.size+1,0,none⟩=some (.pointer (some ⟨sb,0,none⟩))) ((first|exact ⟨by assumption,by assumption⟩|go_keep))
  ((refine zae rfl 106 #[.pointer (some ⟨c.rb,0,none⟩)] (by go_simp) (zay c _ n s (by exact HP0.out.drew.rd)) (fun code p rest w' hr hk=>⟨rfl,by rw [HE0.out,hr];exact ⟨rfl,HP0.out.drew.kp.trans (HSub.out _ _ hk)⟩⟩) ?_;intro v1 w1 A s1 n1 hm1 hv1 hd1 hk1;unfold encT at hv1;subst hv1;have hP1:=HP0.out.drew.go hd1 hk1;have HM1:=hide hm1;have e01:=hP1.b0;have e11:=hP1.b1;obtain ⟨c01,c11,c21,c31,c41,c51,c61,c71,c81,cf1⟩:=hP1.s9;have HQ1:=hide hP1;clear hm1 hd1 hk1 hP1))
 have HE1:Hid (Sx.plain c.e f 5 s (c.full.drop n)=Sx.bnd (Sx.nameOf c.e s1 (c.full.drop n1)) fun B s r=> .inl ({ Sx.F0 with A:=A,B:=B },s,r)):=by
  show _=_
  rw [HE0.out,HM1.out]
  rfl
 have HP1:=hide (HQ1.out.setA (bs A))
 go_wp2
 go_region_held_law (fun w'=>w'.cell? ⟨w.heap.size,0,none⟩=some (.pointer (some ⟨c.rb,0,none⟩))∧w'.cell? ⟨w.heap.size+1,0,none⟩=some (.pointer (some ⟨sb,0,none⟩))) ((first|exact ⟨by assumption,by assumption⟩|go_keep))
  ((refine zae rfl 106 #[.pointer (some ⟨c.rb,0,none⟩)] (by go_simp) (zay c _ n1 s1 (by exact HP1.out.drew.rd)) (fun code p rest w' hr hk=>⟨rfl,by rw [HE1.out,hr];exact ⟨rfl,HP1.out.drew.kp.trans (HSub.out _ _ hk)⟩⟩) ?_;intro v2 w2 B s2 n2 hm2 hv2 hd2 hk2;unfold encT at hv2;subst hv2;have hP2:=HP1.out.drew.go hd2 hk2;have HM2:=hide hm2;have e02:=hP2.b0;have e12:=hP2.b1;obtain ⟨c02,c12,c22,c32,c42,c52,c62,c72,c82,cf2⟩:=hP2.s9;have HQ2:=hide hP2;clear hm2 hd2 hk2 hP2))
 have HE2:Hid (Sx.plain c.e f 5 s (c.full.drop n)= .inl ({ Sx.F0 with A:=A,B:=B },s2,c.full.drop n2)):=by
  show _=_
  rw [HE1.out,HM2.out]
  rfl
 have HP2:=hide (HQ2.out.setB (bs B))
 go_wp2
 go_end0
 rw [HE2.out]
 exact HP2.out.fin _ rfl rfl rfl rfl ⟨1,none,0,rfl,EL.nil _ _ _ _⟩
theorem zm6 (f:Nat) (c:Cx) (w:World) (n:Nat) (s:Sx.St) (sb:Nat) (at':Int) (h:RD c w n s) (hA:c.apart sb) (hS:S9 w sb 6 at' ⟨#[]⟩ ⟨#[]⟩ ⟨#[]⟩ 0 (.slice none 0 0) (.slice none 0 0) (.slice none 0 0)) (hf: ¬ Dry (Sx.plain c.e f 6 s (c.full.drop n))):
  Calls Tryz.prog 150 #[.pointer (some ⟨c.rb,0,none⟩),.pointer (some ⟨sb,0,none⟩)] w (Post c [sb,c.rb] w (encF w sb 6 at') (Sx.plain c.e f 6 s (c.full.drop n))):=by
 have HP0:=hide (PB.start h hA hS 106 184)
 have HF:=hide hf
 have HSub:Hid (∀ a b,Kp [c.rb] a b→Kp [sb,c.rb] a b):=fun a b h=>h.mono (by simp)
 have hr:=h.rlt
 have hsl:=hS.lt
 have HSl:Hid (sb<w.heap.size):=hsl
 have HRb:Hid (c.rb<w.heap.size):=hr
 have hne:=hA.1
 have hne':sb ≠ c.rb:=fun e=>hne e.symm
 obtain ⟨c0,c1,c2,c3,c4,c5,c6,c7,c8,cf⟩:=hS
 have q1: ¬ sb=w.heap.size:=by omega
 have q2: ¬ sb=w.heap.size+1:=by omega
 have q3: ¬ c.rb=w.heap.size:=by omega
 have q4: ¬ c.rb=w.heap.size+1:=by omega
 clear h hA hf
 have HE0:Hid (Sx.plain c.e f 6 s (c.full.drop n)=Sx.bnd (Sx.nameOf c.e s (c.full.drop n)) fun A s r=>Sx.bnd ((Sx.bnd (Sx.pe c.e f 0 Sx.d0 s (r)) fun x s r=> .inl ([x],s,r):Sx.Rs (List Sx.Tr))) fun E s r=> .inl ({ Sx.F0 with A:=A,E:=E },s,r)):=by
  show _=_
  unfold Sx.plain Sx.plainB
  first
  |rfl
  |(rw [zas _ (fun E=>({ Sx.F0 with E:=E }:Sx.Flds))];rfl)
  |(simp only [←zas _ (fun E=>({ Sx.F0 with A:=_,E:=E }:Sx.Flds))];rfl)
 go_enter Tryz.func150,Tryz.ntmps150
 go_wp2
 go_region_held_law (fun w'=>w'.cell? ⟨w.heap.size,0,none⟩=some (.pointer (some ⟨c.rb,0,none⟩))∧w'.cell? ⟨w.heap.size+1,0,none⟩=some (.pointer (some ⟨sb,0,none⟩))) ((first|exact ⟨by assumption,by assumption⟩|go_keep))
  ((refine zae rfl 106 #[.pointer (some ⟨c.rb,0,none⟩)] (by go_simp) (zay c _ n s (by exact HP0.out.drew.rd)) (fun code p rest w' hr hk=>⟨rfl,by rw [HE0.out,hr];exact ⟨rfl,HP0.out.drew.kp.trans (HSub.out _ _ hk)⟩⟩) ?_;intro v1 w1 A s1 n1 hm1 hv1 hd1 hk1;unfold encT at hv1;subst hv1;have hP1:=HP0.out.drew.go hd1 hk1;have HM1:=hide hm1;have e01:=hP1.b0;have e11:=hP1.b1;obtain ⟨c01,c11,c21,c31,c41,c51,c61,c71,c81,cf1⟩:=hP1.s9;have HQ1:=hide hP1;clear hm1 hd1 hk1 hP1))
 have HE1:Hid (Sx.plain c.e f 6 s (c.full.drop n)=Sx.bnd ((Sx.bnd (Sx.pe c.e f 0 Sx.d0 s1 (c.full.drop n1)) fun x s r=> .inl ([x],s,r):Sx.Rs (List Sx.Tr))) fun E s r=> .inl ({ Sx.F0 with A:=A,E:=E },s,r)):=by
  show _=_
  rw [HE0.out,HM1.out]
  rfl
 have HP1:=hide (HQ1.out.setA (bs A))
 have HFE:Hid (¬ Dry (Sx.pe c.e f 0 Sx.d0 s1 (c.full.drop n1))):=by
  have h1:=HF.out
  rw [HE1.out] at h1
  exact Dry.bnd (Dry.bnd h1)
 go_wp2
 go_region_held_law (fun w'=>w'.cell? ⟨w.heap.size,0,none⟩=some (.pointer (some ⟨c.rb,0,none⟩))∧w'.cell? ⟨w.heap.size+1,0,none⟩=some (.pointer (some ⟨sb,0,none⟩))) ((first|exact ⟨by assumption,by assumption⟩|go_keep))
  ((refine zae rfl 170 #[.pointer (some ⟨c.rb,0,none⟩)] (by go_simp) (zbr f c _ n1 s1 (by exact HP1.out.drew.rd) HFE.out) (fun code p rest w' hr hk=>⟨rfl,by rw [HE1.out,hr];exact ⟨rfl,HP1.out.drew.kp.trans (HSub.out _ _ hk)⟩⟩) ?_;intro v2 w2 E s2 n2 hm2 hv2 hd2 hk2;obtain ⟨mE,hv2⟩:=hv2;obtain ⟨aE,capE,hve⟩:=hv2.slice;subst hve;have hP2:=HP1.out.drew.go hd2 hk2;have HM2:=hide hm2;have HV2:=hide hv2;have e02:=hP2.b0;have e12:=hP2.b1;obtain ⟨c02,c12,c22,c32,c42,c52,c62,c72,c82,cf2⟩:=hP2.s9;have HQ2:=hide hP2;clear hm2 hd2 hk2 hP2 hv2))
 have HE2:Hid (Sx.plain c.e f 6 s (c.full.drop n)= .inl ({ Sx.F0 with A:=A,E:=E },s2,c.full.drop n2)):=by
  show _=_
  rw [HE1.out,HM2.out]
  rfl
 have HP2:=hide (HQ2.out.setE (.slice aE E.length capE))
 go_wp2
 go_end0
 rw [HE2.out]
 refine HP2.out.fin _ rfl rfl rfl rfl ⟨mE,aE,capE,rfl,?_⟩
 refine ((HV2.out.base (P':=fun b=>w.heap.size≤b) (fun b _ hb=> ?_)).keep (S:=[sb]) (Kp.rb (Kp.refl _ _) _ _) (by simp;exact HSl.out))
 exact Nat.le_trans HP1.out.drew.kp.size hb
theorem zm7 (f:Nat) (c:Cx) (w:World) (n:Nat) (s:Sx.St) (sb:Nat) (at':Int) (h:RD c w n s) (hA:c.apart sb) (hS:S9 w sb 7 at' ⟨#[]⟩ ⟨#[]⟩ ⟨#[]⟩ 0 (.slice none 0 0) (.slice none 0 0) (.slice none 0 0)) (hf: ¬ Dry (Sx.plain c.e f 7 s (c.full.drop n))):
  Calls Tryz.prog 150 #[.pointer (some ⟨c.rb,0,none⟩),.pointer (some ⟨sb,0,none⟩)] w (Post c [sb,c.rb] w (encF w sb 7 at') (Sx.plain c.e f 7 s (c.full.drop n))):=by
 have HP0:=hide (PB.start h hA hS 106 184)
 have HF:=hide hf
 have HSub:Hid (∀ a b,Kp [c.rb] a b→Kp [sb,c.rb] a b):=fun a b h=>h.mono (by simp)
 have hr:=h.rlt
 have hsl:=hS.lt
 have HSl:Hid (sb<w.heap.size):=hsl
 have HRb:Hid (c.rb<w.heap.size):=hr
 have hne:=hA.1
 have hne':sb ≠ c.rb:=fun e=>hne e.symm
 obtain ⟨c0,c1,c2,c3,c4,c5,c6,c7,c8,cf⟩:=hS
 have q1: ¬ sb=w.heap.size:=by omega
 have q2: ¬ sb=w.heap.size+1:=by omega
 have q3: ¬ c.rb=w.heap.size:=by omega
 have q4: ¬ c.rb=w.heap.size+1:=by omega
 clear h hA hf
 have HE0:Hid (Sx.plain c.e f 7 s (c.full.drop n)=Sx.bnd (Sx.nameOf c.e s (c.full.drop n)) fun A s r=> .inl ({ Sx.F0 with A:=A },s,r)):=by
  show _=_
  unfold Sx.plain Sx.plainB
  first
  |rfl
  |(rw [zas _ (fun E=>({ Sx.F0 with E:=E }:Sx.Flds))];rfl)
  |(simp only [←zas _ (fun E=>({ Sx.F0 with A:=_,E:=E }:Sx.Flds))];rfl)
 go_enter Tryz.func150,Tryz.ntmps150
 go_wp2
 go_region_held_law (fun w'=>w'.cell? ⟨w.heap.size,0,none⟩=some (.pointer (some ⟨c.rb,0,none⟩))∧w'.cell? ⟨w.heap.size+1,0,none⟩=some (.pointer (some ⟨sb,0,none⟩))) ((first|exact ⟨by assumption,by assumption⟩|go_keep))
  ((refine zae rfl 106 #[.pointer (some ⟨c.rb,0,none⟩)] (by go_simp) (zay c _ n s (by exact HP0.out.drew.rd)) (fun code p rest w' hr hk=>⟨rfl,by rw [HE0.out,hr];exact ⟨rfl,HP0.out.drew.kp.trans (HSub.out _ _ hk)⟩⟩) ?_;intro v1 w1 A s1 n1 hm1 hv1 hd1 hk1;unfold encT at hv1;subst hv1;have hP1:=HP0.out.drew.go hd1 hk1;have HM1:=hide hm1;have e01:=hP1.b0;have e11:=hP1.b1;obtain ⟨c01,c11,c21,c31,c41,c51,c61,c71,c81,cf1⟩:=hP1.s9;have HQ1:=hide hP1;clear hm1 hd1 hk1 hP1))
 have HE1:Hid (Sx.plain c.e f 7 s (c.full.drop n)= .inl ({ Sx.F0 with A:=A },s1,c.full.drop n1)):=by
  show _=_
  rw [HE0.out,HM1.out]
  rfl
 have HP1:=hide (HQ1.out.setA (bs A))
 go_wp2
 go_end0
 rw [HE1.out]
 exact HP1.out.fin _ rfl rfl rfl rfl ⟨1,none,0,rfl,EL.nil _ _ _ _⟩
theorem zm8 (f:Nat) (c:Cx) (w:World) (n:Nat) (s:Sx.St) (sb:Nat) (at':Int) (h:RD c w n s) (hA:c.apart sb) (hS:S9 w sb 8 at' ⟨#[]⟩ ⟨#[]⟩ ⟨#[]⟩ 0 (.slice none 0 0) (.slice none 0 0) (.slice none 0 0)) (hf: ¬ Dry (Sx.plain c.e f 8 s (c.full.drop n))):
  Calls Tryz.prog 150 #[.pointer (some ⟨c.rb,0,none⟩),.pointer (some ⟨sb,0,none⟩)] w (Post c [sb,c.rb] w (encF w sb 8 at') (Sx.plain c.e f 8 s (c.full.drop n))):=by
 have HP0:=hide (PB.start h hA hS 106 184)
 have HF:=hide hf
 have HSub:Hid (∀ a b,Kp [c.rb] a b→Kp [sb,c.rb] a b):=fun a b h=>h.mono (by simp)
 have hr:=h.rlt
 have hsl:=hS.lt
 have HSl:Hid (sb<w.heap.size):=hsl
 have HRb:Hid (c.rb<w.heap.size):=hr
 have hne:=hA.1
 have hne':sb ≠ c.rb:=fun e=>hne e.symm
 obtain ⟨c0,c1,c2,c3,c4,c5,c6,c7,c8,cf⟩:=hS
 have q1: ¬ sb=w.heap.size:=by omega
 have q2: ¬ sb=w.heap.size+1:=by omega
 have q3: ¬ c.rb=w.heap.size:=by omega
 have q4: ¬ c.rb=w.heap.size+1:=by omega
 clear h hA hf
 have HE0:Hid (Sx.plain c.e f 8 s (c.full.drop n)=Sx.bnd (Sx.nameOf c.e s (c.full.drop n)) fun A s r=> .inl ({ Sx.F0 with A:=A },s,r)):=by
  show _=_
  unfold Sx.plain Sx.plainB
  first
  |rfl
  |(rw [zas _ (fun E=>({ Sx.F0 with E:=E }:Sx.Flds))];rfl)
  |(simp only [←zas _ (fun E=>({ Sx.F0 with A:=_,E:=E }:Sx.Flds))];rfl)
 go_enter Tryz.func150,Tryz.ntmps150
 go_wp2
 go_region_held_law (fun w'=>w'.cell? ⟨w.heap.size,0,none⟩=some (.pointer (some ⟨c.rb,0,none⟩))∧w'.cell? ⟨w.heap.size+1,0,none⟩=some (.pointer (some ⟨sb,0,none⟩))) ((first|exact ⟨by assumption,by assumption⟩|go_keep))
  ((refine zae rfl 106 #[.pointer (some ⟨c.rb,0,none⟩)] (by go_simp) (zay c _ n s (by exact HP0.out.drew.rd)) (fun code p rest w' hr hk=>⟨rfl,by rw [HE0.out,hr];exact ⟨rfl,HP0.out.drew.kp.trans (HSub.out _ _ hk)⟩⟩) ?_;intro v1 w1 A s1 n1 hm1 hv1 hd1 hk1;unfold encT at hv1;subst hv1;have hP1:=HP0.out.drew.go hd1 hk1;have HM1:=hide hm1;have e01:=hP1.b0;have e11:=hP1.b1;obtain ⟨c01,c11,c21,c31,c41,c51,c61,c71,c81,cf1⟩:=hP1.s9;have HQ1:=hide hP1;clear hm1 hd1 hk1 hP1))
 have HE1:Hid (Sx.plain c.e f 8 s (c.full.drop n)= .inl ({ Sx.F0 with A:=A },s1,c.full.drop n1)):=by
  show _=_
  rw [HE0.out,HM1.out]
  rfl
 have HP1:=hide (HQ1.out.setA (bs A))
 go_wp2
 go_end0
 rw [HE1.out]
 exact HP1.out.fin _ rfl rfl rfl rfl ⟨1,none,0,rfl,EL.nil _ _ _ _⟩
theorem zm9 (f:Nat) (c:Cx) (w:World) (n:Nat) (s:Sx.St) (sb:Nat) (at':Int) (h:RD c w n s) (hA:c.apart sb) (hS:S9 w sb 9 at' ⟨#[]⟩ ⟨#[]⟩ ⟨#[]⟩ 0 (.slice none 0 0) (.slice none 0 0) (.slice none 0 0)) (hf: ¬ Dry (Sx.plain c.e f 9 s (c.full.drop n))):
  Calls Tryz.prog 150 #[.pointer (some ⟨c.rb,0,none⟩),.pointer (some ⟨sb,0,none⟩)] w (Post c [sb,c.rb] w (encF w sb 9 at') (Sx.plain c.e f 9 s (c.full.drop n))):=by
 have HP0:=hide (PB.start h hA hS 106 184)
 have HF:=hide hf
 have HSub:Hid (∀ a b,Kp [c.rb] a b→Kp [sb,c.rb] a b):=fun a b h=>h.mono (by simp)
 have hr:=h.rlt
 have hsl:=hS.lt
 have HSl:Hid (sb<w.heap.size):=hsl
 have HRb:Hid (c.rb<w.heap.size):=hr
 have hne:=hA.1
 have hne':sb ≠ c.rb:=fun e=>hne e.symm
 obtain ⟨c0,c1,c2,c3,c4,c5,c6,c7,c8,cf⟩:=hS
 have q1: ¬ sb=w.heap.size:=by omega
 have q2: ¬ sb=w.heap.size+1:=by omega
 have q3: ¬ c.rb=w.heap.size:=by omega
 have q4: ¬ c.rb=w.heap.size+1:=by omega
 clear h hA hf
 have HE0:Hid (Sx.plain c.e f 9 s (c.full.drop n)=Sx.bnd (Sx.nameOf c.e s (c.full.drop n)) fun A s r=> .inl ({ Sx.F0 with A:=A },s,r)):=by
  show _=_
  unfold Sx.plain Sx.plainB
  first
  |rfl
  |(rw [zas _ (fun E=>({ Sx.F0 with E:=E }:Sx.Flds))];rfl)
  |(simp only [←zas _ (fun E=>({ Sx.F0 with A:=_,E:=E }:Sx.Flds))];rfl)
 go_enter Tryz.func150,Tryz.ntmps150
 go_wp2
 go_region_held_law (fun w'=>w'.cell? ⟨w.heap.size,0,none⟩=some (.pointer (some ⟨c.rb,0,none⟩))∧w'.cell? ⟨w.heap.size+1,0,none⟩=some (.pointer (some ⟨sb,0,none⟩))) ((first|exact ⟨by assumption,by assumption⟩|go_keep))
  ((refine zae rfl 106 #[.pointer (some ⟨c.rb,0,none⟩)] (by go_simp) (zay c _ n s (by exact HP0.out.drew.rd)) (fun code p rest w' hr hk=>⟨rfl,by rw [HE0.out,hr];exact ⟨rfl,HP0.out.drew.kp.trans (HSub.out _ _ hk)⟩⟩) ?_;intro v1 w1 A s1 n1 hm1 hv1 hd1 hk1;unfold encT at hv1;subst hv1;have hP1:=HP0.out.drew.go hd1 hk1;have HM1:=hide hm1;have e01:=hP1.b0;have e11:=hP1.b1;obtain ⟨c01,c11,c21,c31,c41,c51,c61,c71,c81,cf1⟩:=hP1.s9;have HQ1:=hide hP1;clear hm1 hd1 hk1 hP1))
 have HE1:Hid (Sx.plain c.e f 9 s (c.full.drop n)= .inl ({ Sx.F0 with A:=A },s1,c.full.drop n1)):=by
  show _=_
  rw [HE0.out,HM1.out]
  rfl
 have HP1:=hide (HQ1.out.setA (bs A))
 go_wp2
 go_end0
 rw [HE1.out]
 exact HP1.out.fin _ rfl rfl rfl rfl ⟨1,none,0,rfl,EL.nil _ _ _ _⟩
end Go.Proofs.YtagblibbngmbdaaGreatDoor
