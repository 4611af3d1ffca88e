import Derived.Test.YteeocekjekclbaaGreatDoorMbn
namespace Go.Proofs.YteeocekjekclbaaGreatDoor
open Go.RowKit
namespace Bg
def nestA (T:List Tk.Tok) (D:Int) (n:Nat) (s:Sx.St):Option (Fl × Nat × Sx.St):=
 if D=11∨D=12 then (tok 2 T n).bind fun a=>(skp Sx.wFrom T a.2).bind fun n=>(tok 2 T n).bind fun b=>some ({ A:=a.1.text,B:=b.1.text },b.2,s)
 else if D=13∨D=14 then (ex T n).bind fun r=>some ({ E:=[r.1] },r.2,s.part) else none
def nest (T:List Tk.Tok) (blk:Nat→Sx.St→Option (List Sx.Tr × Nat × Sx.St)) (D:Int) (n:Nat) (s:Sx.St):Option (Fl × List Sx.Tr × Nat × Sx.St):=
 (nestA T D n s).bind fun h=>(blk h.2.1 h.2.2).bind fun b=>if Sx.txt (T.drop b.2.1)=Sx.wElse then none else some (h.1,b.1,b.2.1,b.2.2)
def stmt (K:List Nat) (e:Nat) (T:List Tk.Tok) (blk:Nat→Sx.St→Option (List Sx.Tr × Nat × Sx.St)) (n:Nat) (s:Sx.St):Option (Sx.Tr × Nat × Sx.St):=
 if s.stmts<300∧Sx.doOf (Sx.txt (T.drop n)) ∈ K then
  if 11≤Sx.doOf (Sx.txt (T.drop n)) then (nest T blk (Sx.doOf (Sx.txt (T.drop n))) (n+1) s.stmt).bind fun r=>some (Sx.tS (Sx.doOf (Sx.txt (T.drop n))) (Sx.place e (T.drop n)) r.1.A r.1.B [] 0 (r.1.E.map tr) r.2.1 [],r.2.2.1,r.2.2.2)
  else (plain T (Sx.doOf (Sx.txt (T.drop n))) (n+1) s.stmt).bind fun r=>(skp [59] T r.2.1).bind fun m=>some (Sx.tS (Sx.doOf (Sx.txt (T.drop n))) (Sx.place e (T.drop n)) r.1.A r.1.B r.1.T r.1.N (r.1.E.map tr) [] [],m,r.2.2)
 else none
def sts (K:List Nat) (e:Nat) (T:List Tk.Tok) (blk:Nat→Sx.St→Option (List Sx.Tr × Nat × Sx.St)):Nat→List Sx.Tr→Nat→Sx.St→Option (List Sx.Tr × Nat × Sx.St)
 |0,_,_,_=>none
 |k+1,acc,n,s=>if Sx.txt (T.drop n)=[125] then some (acc,n,s) else if 300≤acc.length then none else (stmt K e T blk n s).bind fun r=>sts K e T blk k (acc++[r.1]) r.2.1 r.2.2
def block (K:List Nat) (e:Nat) (T:List Tk.Tok):Nat→Nat→Sx.St→Option (List Sx.Tr × Nat × Sx.St)
 |0,_,_=>none
 |f+1,n,s=>if s.dep<8 then (skp [123] T n).bind fun n=>(sts K e T (block K e T f) 301 [] n s.up).bind fun r=>(skp [125] T r.2.1).bind fun m=>if 0<r.2.2.dep then some (r.1,m,r.2.2.down) else none else none
end Bg
def BlC (K:List Nat) (f:Nat):Prop:= ∀ (c:Cx) (w:World) (n:Nat) (s:Sx.St) (l:List Sx.Tr) (m:Nat) (s':Sx.St),RD c w n s→Bg.block K c.e c.full f n s=some (l,m,s')→
 Calls Tryz.prog 86 #[.pointer (some ⟨c.rb,0,none⟩)] w fun e w'=> ∃ v,(∃ k,SL w' (fun b=>w.heap.size≤b) k l v)∧Ok c w v m s' e w'
def st2 (D at':Int) (x:Bg.Fl) (uE uB:Value):List Value:=[.int .i64 D,.int .i64 at',.string (bs x.A),.string (bs x.B),.string ⟨#[]⟩,.int .i64 0,uE,uB,.slice none 0 0]
def NsC (K:List Nat) (f:Nat) (D:Int):Prop:= ∀ (c:Cx) (w:World) (n:Nat) (s:Sx.St) (sb:Nat) (at':Int) (x:Bg.Fl) (l:List Sx.Tr) (m:Nat) (s':Sx.St),RD c w n s→c.apart sb→SB w sb (st0 D at')→Bg.nest c.full (Bg.block K c.e c.full f) D n s=some (x,l,m,s')→
 Calls Tryz.prog 132 #[.pointer (some ⟨c.rb,0,none⟩),.pointer (some ⟨sb,0,none⟩)] w fun e w'=>e= .returned (.tuple #[])∧RD c w' m s'∧Kp [sb,c.rb] w w'∧ ∃ uE uB k,SB w' sb (st2 D at' x uE uB)∧EL w' (fun b=>w.heap.size≤b) 2 (x.E.map Bg.tr) uE∧SL w' (fun b=>w.heap.size≤b) k l uB
structure NB (c:Cx) (w0 w:World) (n:Nat) (s:Sx.St) (sb:Nat) (vs:List Value):Prop where
 rd:RD c w n s
 m9:SB w sb vs
 kp:Kp [sb,c.rb] w0 w
 slt:sb<w0.heap.size
 ap:c.apart sb
section
variable {c:Cx} {w0 w w1:World} {n n1:Nat} {s s1:Sx.St} {sb:Nat} {vs:List Value}
theorem NB.go (h:NB c w0 w n s sb vs) (hd:RD c w1 n1 s1) (hk:Kp [c.rb] w w1):NB c w0 w1 n1 s1 sb vs:=
 ⟨hd,h.m9.keep hk (by have:=h.ap.1;simp;omega),h.kp.trans (hk.mono (by simp)),h.slt,h.ap⟩
theorem NB.set {j:Nat} {u:Value} (h:NB c w0 w n s sb vs) (hu:vs[j]? =some u) (v:Value):NB c w0 (w.setCell ⟨sb,j,none⟩ v) n s sb (vs.set j v):=
 ⟨h.rd.set_apart h.ap _ _,h.m9.set hu v,Kp.rb h.kp _ _,h.slt,h.ap⟩
theorem NB.far {j:Nat} (h:NB c w0 w n s sb vs) {E:List Sx.Tr} {v:Value} (hE:EL w1 (fun b=>w.heap.size≤b) 2 E v) (u:Value):EL (w1.setCell ⟨sb,j,none⟩ u) (fun b=>w0.heap.size≤b) 2 E v:=
 (hE.base (fun b _ hb=>Nat.le_trans h.kp.size hb)).keep (S:=[sb]) (Kp.rb (Kp.refl _ _) _ _) (by have:=h.slt;simpa using this)
theorem NB.farS {j k:Nat} (h:NB c w0 w n s sb vs) {E:List Sx.Tr} {v:Value} (hE:SL w1 (fun b=>w.heap.size≤b) k E v) (u:Value):SL (w1.setCell ⟨sb,j,none⟩ u) (fun b=>w0.heap.size≤b) k E v:=
 (hE.base (fun b _ hb=>Nat.le_trans h.kp.size hb)).keep (S:=[sb]) (Kp.rb (Kp.refl _ _) _ _) (by have:=h.slt;simpa using this)
end
set_option maxRecDepth 100000 in
set_option maxHeartbeats 2000000 in
theorem nest_ab (K:List Nat) (f:Nat) (D:Int) (hD:D=11∨D=12) (hB:BlC K f):NsC K f D:=by
 intro c w n s sb at' x l m s' h hA hS hx
 obtain ⟨⟨z,n4,s4⟩,h0,hx⟩:=obind hx
 obtain ⟨⟨l',m',t'⟩,h5,hx⟩:=obind hx
 rcases oif hx with ⟨_,hx⟩|⟨hel,hx⟩
 ·cases hx
 cases hx
 rcases oif h0 with ⟨_,h0⟩|⟨hn,_⟩
 rotate_left
 ·exact absurd hD hn
 obtain ⟨⟨t,n1⟩,h1,h0⟩:=obind h0
 obtain ⟨n2,h2,h0⟩:=obind h0
 obtain ⟨⟨u,n3⟩,h3,h0⟩:=obind h0
 cases h0
 have H1:=hide h1
 have H2:=hide h2
 have H3:=hide h3
 have H5:=hide h5
 have HEL:=hide hel
 have HBl:=hide hB
 have HP0:Hid (NB c w w n s sb (st0 D at')):=⟨h,hS,Kp.refl _ _,hS.lt,hA⟩
 have d0:(D == 11 || D == 12)=true:=by rcases hD with rfl|rfl<;> rfl
 have k0:=hS.cs 0 _ rfl
 have k2:=hS.cs 2 _ rfl
 have kf:=hS.fz
 clear h hA hS hB h1 h2 h3 h5 hel
 go_enter Tryz.func132,Tryz.ntmps132
 rcases hD with rfl|rfl
 all_goals
  go_wp2_with fail
  refine (name_ok H1.out HP0.out.rd).mono ?_
  rintro e w1 ⟨rfl,hd,hk⟩
  have hP:=HP0.out.go hd hk
  have c2:=hP.m9.cs 2 _ rfl
  have cf:=hP.m9.fz
  have HP1:=hide (hP.set (j:=2) rfl (.string (bs t.text)))
  clear hd hk hP
  go_wp2_with fail
  refine (skip_ok ⟨#[102,114,111,109]⟩ H2.out HP1.out.rd).mono ?_
  rintro e w2 ⟨rfl,hd,hk⟩
  have HP2:=hide (HP1.out.go hd hk)
  clear hd hk
  go_wp2_with fail
  refine (name_ok H3.out HP2.out.rd).mono ?_
  rintro e w3 ⟨rfl,hd,hk⟩
  have hP:=HP2.out.go hd hk
  have c3:=hP.m9.cs 3 _ rfl
  have cf3:=hP.m9.fz
  have HP3:=hide (hP.set (j:=3) rfl (.string (bs u.text)))
  clear hd hk hP
  go_wp2_with fail
  refine (HBl.out c _ _ _ _ _ _ HP3.out.rd H5.out).mono ?_
  rintro e w4 ⟨v,⟨k,hv⟩,rfl,hd,hk⟩
  have hP:=HP3.out.go hd hk
  have c7:=hP.m9.cs 7 _ rfl
  have cf4:=hP.m9.fz
  have c0:=hP.m9.cs 0 _ rfl
  obtain ⟨av,cap,rfl⟩:=hv.slice
  have HP4:=hide (hP.set (j:=7) rfl (.slice av l'.length cap))
  have HV:=hide hv
  clear hd hk hP hv
  try go_wp2_with fail
  try (refine (sees_no ⟨#[101,108,115,101]⟩ HEL.out HP4.out.rd).mono ?_;rintro e w5 ⟨rfl,k5,rfl⟩;have HP5:=hide (HP4.out.go (HP4.out.rd.drewN k5) ((Kp.refl _ _).drewN k5)))
  go_wp2
  go_end0
  first
  |exact ⟨rfl,HP5.out.rd,HP5.out.kp,_,_,k,HP5.out.m9,(EL.nil _ _ _ _).more 1,(HP3.out.farS HV.out _).keep ((Kp.refl [] _).drewN _) (by simp)⟩
  |exact ⟨rfl,HP4.out.rd,HP4.out.kp,_,_,k,HP4.out.m9,(EL.nil _ _ _ _).more 1,HP3.out.farS HV.out _⟩
set_option maxRecDepth 100000 in
set_option maxHeartbeats 2000000 in
theorem nest_e (K:List Nat) (f:Nat) (D:Int) (hD:D=13∨D=14) (hB:BlC K f):NsC K f D:=by
 intro c w n s sb at' x l m s' h hA hS hx
 obtain ⟨⟨z,n4,s4⟩,h0,hx⟩:=obind hx
 obtain ⟨⟨l',m',t'⟩,h5,hx⟩:=obind hx
 rcases oif hx with ⟨_,hx⟩|⟨hel,hx⟩
 ·cases hx
 cases hx
 rcases oif h0 with ⟨hn,_⟩|⟨_,h0⟩
 ·omega
 rcases oif h0 with ⟨_,h0⟩|⟨hn,_⟩
 rotate_left
 ·exact absurd hD hn
 obtain ⟨⟨y,n1⟩,h1,h0⟩:=obind h0
 cases h0
 have H1:=hide h1
 have H5:=hide h5
 have HEL:=hide hel
 have HBl:=hide hB
 have HP0:Hid (NB c w w n s sb (st0 D at')):=⟨h,hS,Kp.refl _ _,hS.lt,hA⟩
 have k0:=hS.cs 0 _ rfl
 have k6:=hS.cs 6 _ rfl
 have kf:=hS.fz
 clear h hA hS hB h1 h5 hel
 go_enter Tryz.func132,Tryz.ntmps132
 rcases hD with rfl|rfl
 all_goals
  go_wp2_with fail
  refine (exprs_ok H1.out HP0.out.rd).mono ?_
  rintro e w1 ⟨v,⟨hv,g,rfl⟩,rfl,hd,hk⟩
  have hP:=HP0.out.go hd hk
  have c6:=hP.m9.cs 6 _ rfl
  have cf:=hP.m9.fz
  have HP1:=hide (hP.set (j:=6) rfl (.slice (some ⟨g,0,none⟩) 1 1))
  have HE:=hide (HP0.out.far (j:=6) hv (.slice (some ⟨g,0,none⟩) 1 1))
  clear hd hk hP hv
  go_wp2_with fail
  refine (HBl.out c _ _ _ _ _ _ HP1.out.rd H5.out).mono ?_
  rintro e w4 ⟨v,⟨k,hv⟩,rfl,hd,hk⟩
  have hP:=HP1.out.go hd hk
  have c7:=hP.m9.cs 7 _ rfl
  have cf4:=hP.m9.fz
  have c0:=hP.m9.cs 0 _ rfl
  obtain ⟨av,cap,rfl⟩:=hv.slice
  have HP4:=hide (hP.set (j:=7) rfl (.slice av l'.length cap))
  have HV:=hide hv
  have HE4:=hide ((HE.out.keep hk (by have:=HP0.out.rd.rlt;simpa using this)).keep (S:=[sb]) (Kp.rb (Kp.refl _ _) 7 (.slice av l'.length cap)) (by have:=HP0.out.slt;simpa using this))
  clear hd hk hP hv
  try go_wp2_with fail
  try (refine (sees_no ⟨#[101,108,115,101]⟩ HEL.out HP4.out.rd).mono ?_;rintro e w5 ⟨rfl,k5,rfl⟩;have HP5:=hide (HP4.out.go (HP4.out.rd.drewN k5) ((Kp.refl _ _).drewN k5)))
  go_wp2
  go_end0
  first
  |exact ⟨rfl,HP5.out.rd,HP5.out.kp,_,_,k,HP5.out.m9,HE4.out.keep ((Kp.refl [] _).drewN _) (by simp),(HP1.out.farS HV.out _).keep ((Kp.refl [] _).drewN _) (by simp)⟩
  |exact ⟨rfl,HP4.out.rd,HP4.out.kp,_,_,k,HP4.out.m9,HE4.out,HP1.out.farS HV.out _⟩
end Go.Proofs.YteeocekjekclbaaGreatDoor
namespace Go.Proofs.YteeocekjekclbaaGreatDoor
open Go.RowKit
def setCells (b:Nat):World→Nat→List Value→World
 |w,_,[]=>w
 |w,o,v::vs=>setCells b (w.setCell ⟨b,o,none⟩ v) (o+1) vs
theorem RD.sets {c:Cx} {n:Nat} {s:Sx.St} {B b:Nat} (hB:c.below B) (hb:B≤b) (vs:List Value): ∀ (w:World) (o:Nat),RD c w n s→RD c (setCells b w o vs) n s:=by
 induction vs with
 |nil=>exact fun w o h=>h
 |cons v vs ih=>exact fun w o h=>ih _ _ (h.set_new hB hb _)
theorem Kp.sets {S:List Nat} {a:World} {b:Nat} (hb:a.heap.size≤b∨b ∈ S) (vs:List Value): ∀ (w:World) (o:Nat),Kp S a w→Kp S a (setCells b w o vs):=by
 induction vs with
 |nil=>exact fun w o h=>h
 |cons v vs ih=>exact fun w o h=>ih _ _ (hb.elim (fun hb=>Kp.nb h hb _ _) (fun hb=>h.setCell (p:=⟨b,o,none⟩) hb _))
def z9:List Value:=[.int .i64 0,.int .i64 0,.string ⟨#[]⟩,.string ⟨#[]⟩,.string ⟨#[]⟩,.int .i64 0,.slice none 0 0,.slice none 0 0,.slice none 0 0]
def encSt (w0:World) (w':World) (d:Sx.Tr) (v:Value):Prop:= ∃ m D at' A B T N a0 x0 y0 a1 x1 y1 a2 x2 y2,v= .agg #[.int .i64 D,.int .i64 at',.string A,.string B,.string T,.int .i64 N,.slice a0 x0 y0,.slice a1 x1 y1,.slice a2 x2 y2]∧
 RS w' (fun b=>w0.heap.size≤b) m d [.int .i64 D,.int .i64 at',.string A,.string B,.string T,.int .i64 N,.slice a0 x0 y0,.slice a1 x1 y1,.slice a2 x2 y2]
theorem SB.nine {w:World} {b:Nat} {a0 a1 a2 a3 a4 a5 a6 a7 a8:Value} (h:SB w b [a0,a1,a2,a3,a4,a5,a6,a7,a8]):w.cell? ⟨b,0,none⟩=some a0∧w.cell? ⟨b,1,none⟩=some a1∧w.cell? ⟨b,2,none⟩=some a2∧w.cell? ⟨b,3,none⟩=some a3∧w.cell? ⟨b,4,none⟩=some a4∧w.cell? ⟨b,5,none⟩=some a5∧w.cell? ⟨b,6,none⟩=some a6∧w.cell? ⟨b,7,none⟩=some a7∧w.cell? ⟨b,8,none⟩=some a8:=
 ⟨h.cs 0 _ rfl,h.cs 1 _ rfl,h.cs 2 _ rfl,h.cs 3 _ rfl,h.cs 4 _ rfl,h.cs 5 _ rfl,h.cs 6 _ rfl,h.cs 7 _ rfl,h.cs 8 _ rfl⟩
def StC (K:List Nat) (f:Nat):Prop:= ∀ (c:Cx) (w:World) (n:Nat) (s:Sx.St) (d:Sx.Tr) (m:Nat) (s':Sx.St),RD c w n s→Bg.stmt K c.e c.full (Bg.block K c.e c.full f) n s=some (d,m,s')→
 Calls Tryz.prog 111 #[.pointer (some ⟨c.rb,0,none⟩)] w fun e w'=> ∃ v,encSt w w' d v∧Ok c w v m s' e w'
theorem SB.new (w:World) (b:Nat) (hb:b=w.heap.size) (vs:List Value) (t:TypeId):SB (w.alloc (.cells vs.toArray t)) b vs:=by
 subst hb
 exact ⟨fun j v hj=>by simp [go_sem,hj],fun o=>by simp [go_sem],by simp⟩
structure SE (c:Cx) (w w':World) (n:Nat) (s:Sx.St) (D at':Int) (A B T:ByteArray) (N:Int) (uE uB:Value) (d:Sx.Tr):Prop where
 rd:RD c w' n s
 kp:Kp [c.rb] w w'
 z:SB w' w.heap.size z9
 x:SB w' (w.heap.size+1) [.int .i64 D,.int .i64 at',.string A,.string B,.string T,.int .i64 N,uE,uB,.slice none 0 0]
 r: ∃ k,RS w' (fun b=>w.heap.size<b) k d [.int .i64 D,.int .i64 at',.string A,.string B,.string T,.int .i64 N,uE,uB,.slice none 0 0]
theorem four (D:Nat) (h:11≤D) (h':D<15):((D:Int) == 11)=true∨(((D:Int) == 11)=false∧((D:Int) == 12)=true)∨(((D:Int) == 11)=false∧((D:Int) == 12)=false∧((D:Int) == 13)=true)∨(((D:Int) == 11)=false∧((D:Int) == 12)=false∧((D:Int) == 13)=false∧((D:Int) == 14)=true):=by
 have:D=11∨D=12∨D=13∨D=14:=by omega
 rcases this with rfl|rfl|rfl|rfl<;> decide
set_option maxRecDepth 100000 in
set_option maxHeartbeats 4000000 in
theorem stmt_ok (K:List Nat) (f:Nat) (hK: ∀ D,D ∈ K→0<D∧(D<11→PlC (D:Int))∧(11≤D→D<15∧NsC K f D)):StC K f:=by
 intro c w n s d m s' h hx
 rcases oif hx with ⟨⟨h300,hDK⟩,hx⟩|⟨_,hx⟩
 rotate_left
 ·cases hx
 obtain ⟨D,hD⟩: ∃ D,Sx.doOf (Sx.txt (c.full.drop n))=D:=⟨_,rfl⟩
 rw [hD] at hx hDK
 obtain ⟨h0,hPl,hNs⟩:=hK D hDK
 have hd1:=doOf_any (bs (Sx.txt (c.full.drop n)))
 rw [bs_list,hD] at hd1
 have hlt:n<c.full.length:=by
  rcases Nat.lt_or_ge n c.full.length with h1|h1
  ·exact h1
  ·rw [List.drop_eq_nil_of_le h1] at hD
   exact absurd hD.symm (by show ¬ D=0;omega)
 have HDO:=hide hd1
 have HH:=hide h
 have HB:=hide h.lt
 have hr:=h.rlt
 have q3: ¬ c.rb=w.heap.size:=by omega
 have q4: ¬ c.rb=w.heap.size+1:=by omega
 have d0:((D:Int) == 0)=false:=by simp;omega
 have d3:((s.stmts:Int) == 300)=false:=by simp;omega
 have c3:=h.c3
 have c1:=h.c1
 have f1:=h.fz 1
 have f3:=h.fz 3
 have hm:=h.hm
 have HAP:Hid (c.apart (w.heap.size+1)):=⟨by omega,fun hne=>by have:=HB.out.2 hne;omega⟩
 generalize hpl:Sx.place c.e (c.full.drop n)=pl at *
 have HPL:=hide hpl
 have HPl:=hide hPl
 have HNs:=hide hNs
 have HX:=hide hx
 clear h hd1 hpl hPl hNs hx hK hDK hD
 go_enter Tryz.func111,Tryz.ntmps111
 go_wp2_with fail
 refine (text_any c _ n s (by exact HH.out.alloc _)).mono ?_
 rintro e w1 ⟨rfl,k1,rfl⟩
 go_wp2_with fail
 refine (HDO.out _).mono ?_
 rintro e w1 ⟨rfl,hw1⟩
 rw [hw1]
 clear hw1 w1
 go_wp2_with fail
 refine (at_any c _ n s (by exact (HH.out.alloc _).drewN _)).mono ?_
 rintro e w1 ⟨rfl,k2,rfl⟩
 rw [HPL.out]
 have hz:Hid (∀ w2,Kp [w.heap.size+1,c.rb] ((((((w.alloc (.cells z9.toArray 145)).drewN (k1+k2)).setCell ⟨c.rb,3,none⟩ (.int .i64 ((s.stmts:Int)+1))).setCell ⟨c.rb,1,none⟩ (.int .i64 ((n:Int)+1))).alloc (.cells (st0 D pl).toArray 145))) w2→Kp [c.rb] w w2∧SB w2 w.heap.size z9∧w.heap.size+2≤w2.heap.size):=fun w2 hk=>by
  refine ⟨Kp.new (b:=w.heap.size+1) ((Kp.alloc (Kp.rb (b:=c.rb) (S:=[]) (Kp.rb (((Kp.refl _ _).alloc _).drewN _) _ _) _ _) _).mono (by simp) |>.trans hk) (by omega),((SB.new w _ rfl z9 145).keep (S:=[c.rb]) (Kp.alloc (Kp.rb (Kp.rb ((Kp.refl _ _).drewN _) _ _) _ _) _) (by simp;omega)).keep hk (by simp;omega),?_⟩
  have:=hk.size
  simpa [World.setCell,World.drewN] using this
 rcases oif HX.out with ⟨h11,hx⟩|⟨h11,hx⟩
 ·obtain ⟨⟨x,l,m',t'⟩,h5,hx⟩:=obind hx
  cases hx
  obtain ⟨h15,hns⟩:=HNs.out h11
  have HN:=hide (hns c)
  have H5:=hide h5
  have hDD:=four D h11 h15
  clear h5 hns HX HNs HPl
  rcases hDD with d1|⟨d1,d2⟩|⟨d1,d2,d3⟩|⟨d1,d2,d3,d4⟩
  all_goals
   go_wp2_with fail
   refine (HN.out _ (n+1) s.stmt (w.heap.size+1) pl x l _ _ ?_ HAP.out ?_ H5.out).mono ?_
   ·exact ((((HH.out.alloc _).drewN _).stmt h300).step hlt).alloc _
   ·exact SB.new _ _ (by simp [World.setCell,World.drewN]) (st0 D pl) _
   rintro e w2 ⟨rfl,hd,hk,uE,uB,kB,hs,hE,hB⟩
   obtain ⟨hk2,hz2,hl2⟩:=hz.out w2 hk
   obtain ⟨aE,cE,rfl⟩:=hE.slice
   obtain ⟨aB,cB,rfl⟩:=hB.slice
   simp only [List.length_map] at hs hE
   have HS:=hide (SE.mk (c:=c) hd hk2 hz2 hs ⟨kB+2,D,pl,x.A,x.B,[],0,x.E.map Bg.tr,l,[],_,_,_,rfl,rfl,by rw [Nat.add_comm];exact (hE.base (fun b _ hb=>by simp [World.setCell,World.drewN] at hb;omega)).more kB,(hB.base (fun b _ hb=>by simp [World.setCell,World.drewN] at hb;omega)).more 2,by rw [show kB+2=1+(kB+1) from by omega];exact (SL.nil _ _ _ _).more _⟩)
   clear hd hk hk2 hz2 hs hE hB c1 c3 f1 f3 hz
   obtain ⟨z0,z1,z2,z3,z4,z5,z6,z7,z8⟩:=HS.out.z.nine
   obtain ⟨x0,x1,x2,x3,x4,x5,x6,x7,x8⟩:=HS.out.x.nine
   have zf:=HS.out.z.fz
   go_wp2
   refine bodyPost_ret (v:= .agg #[.int .i64 D,.int .i64 pl,.string (bs x.A),.string (bs x.B),.string ⟨#[]⟩,.int .i64 0,.slice aE x.E.length cE,.slice aB l.length cB,.slice none 0 0]) (by simp [results,Tryz.results111,go_sem,z0,z1,z2,z3,z4,z5,z6,z7,z8]) rfl ?_
   obtain ⟨kk,hr⟩:=HS.out.r
   refine ⟨_,⟨kk,_,_,_,_,_,_,_,_,_,_,_,_,_,_,_,rfl,?_⟩,rfl,RD.sets HB.out (Nat.le_refl _) [_,_,_,_,_,_,_,_,_] _ 0 HS.out.rd,Kp.sets (.inl (Nat.le_refl _)) [_,_,_,_,_,_,_,_,_] _ 0 HS.out.kp⟩
   exact (hr.keep (S:=[w.heap.size]) (Kp.sets (.inr (by simp)) [_,_,_,_,_,_,_,_,_] _ 0 (Kp.refl _ _)) (by simp)).base (fun b _ hb=>Nat.le_of_lt hb)
 ·obtain ⟨⟨x,m1,t'⟩,h5,hx⟩:=obind hx
  obtain ⟨m',h6,hx⟩:=obind hx
  cases hx
  have HN:=hide (HPl.out (by omega) c)
  have H5:=hide h5
  have H6:=hide h6
  have d11:((D:Int) == 11)=false:=by simp;omega
  have d12:((D:Int) == 12)=false:=by simp;omega
  have d13:((D:Int) == 13)=false:=by simp;omega
  have d14:((D:Int) == 14)=false:=by simp;omega
  clear h5 h6 HX HNs HPl
  go_wp2_with fail
  refine (HN.out _ (n+1) s.stmt (w.heap.size+1) pl x m1 t' ?_ HAP.out ?_ H5.out).mono ?_
  ·exact ((((HH.out.alloc _).drewN _).stmt h300).step hlt).alloc _
  ·exact SB.new _ _ (by simp [World.setCell,World.drewN]) (st0 D pl) _
  rintro e w2 ⟨rfl,hd,hk,uE,hs,hE⟩
  obtain ⟨hk2,hz2,hl2⟩:=hz.out w2 hk
  obtain ⟨aE,cE,rfl⟩:=hE.slice
  simp only [List.length_map] at hs hE
  have HD2:=hide hd
  have HK2:=hide hk2
  have HZ2:=hide hz2
  have HS2:=hide hs
  have HE2:=hide (hE.base (P':=fun b=>w.heap.size<b) (fun b _ hb=>by simp [World.setCell,World.drewN] at hb;omega))
  clear hd hk hk2 hz2 hs hE c1 c3 f1 f3 hz
  go_wp2_with fail
  refine (skip_ok ⟨#[59]⟩ H6.out HD2.out).mono ?_
  rintro e w3 ⟨rfl,hd,hk⟩
  have HS:Hid (SE c w w3 _ _ D pl (bs x.A) (bs x.B) (bs x.T) x.N (.slice aE x.E.length cE) (.slice none 0 0) (Sx.tS D pl x.A x.B x.T x.N (x.E.map Bg.tr) [] [])):=hide ⟨hd,HK2.out.trans hk,HZ2.out.keep hk (by simp;omega),HS2.out.keep hk (by simp;omega),2,D,pl,x.A,x.B,x.T,x.N,_,[],[],_,_,_,rfl,rfl,HE2.out.keep hk (by simp;omega),(SL.nil _ _ _ _).more 1,(SL.nil _ _ _ _).more 1⟩
  clear hd hk
  obtain ⟨z0,z1,z2,z3,z4,z5,z6,z7,z8⟩:=HS.out.z.nine
  obtain ⟨x0,x1,x2,x3,x4,x5,x6,x7,x8⟩:=HS.out.x.nine
  have zf:=HS.out.z.fz
  go_wp2
  refine bodyPost_ret (v:= .agg #[.int .i64 D,.int .i64 pl,.string (bs x.A),.string (bs x.B),.string (bs x.T),.int .i64 x.N,.slice aE x.E.length cE,.slice none 0 0,.slice none 0 0]) (by simp [results,Tryz.results111,go_sem,z0,z1,z2,z3,z4,z5,z6,z7,z8]) rfl ?_
  obtain ⟨kk,hr⟩:=HS.out.r
  refine ⟨_,⟨kk,_,_,_,_,_,_,_,_,_,_,_,_,_,_,_,rfl,?_⟩,rfl,RD.sets HB.out (Nat.le_refl _) [_,_,_,_,_,_,_,_,_] _ 0 HS.out.rd,Kp.sets (.inl (Nat.le_refl _)) [_,_,_,_,_,_,_,_,_] _ 0 HS.out.kp⟩
  exact (hr.keep (S:=[w.heap.size]) (Kp.sets (.inr (by simp)) [_,_,_,_,_,_,_,_,_] _ 0 (Kp.refl _ _)) (by simp)).base (fun b _ hb=>Nat.le_of_lt hb)
end Go.Proofs.YteeocekjekclbaaGreatDoor
