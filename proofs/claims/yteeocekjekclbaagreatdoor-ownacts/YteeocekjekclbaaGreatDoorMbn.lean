import Derived.Test.YteeocekjekclbaaGreatDoorMbl
import Derived.Deep.RegionLaw
import Derived.Deep.RegionHeldLaw
import Derived.Deep.AppendLies
import Derived.Test.YteeocekjekclbaaGreatDoorMbm
namespace Go.Proofs.YteeocekjekclbaaGreatDoor
open Go.RowKit
namespace Bg
structure Fl where
 A:List UInt8:=[]
 B:List UInt8:=[]
 T:List UInt8:=[]
 N:Int:=0
 E:List (Int × List UInt8 × Int):=[]
def arg (T:List Tk.Tok) (E:List (Int × List UInt8 × Int)) (n:Nat) (s:Sx.St):Option (List (Int × List UInt8 × Int) × Nat × Sx.St):=(ex T n).bind fun r=>some (E++[r.1],r.2,s.part)
def plain (T:List Tk.Tok) (D:Int) (n:Nat) (s:Sx.St):Option (Fl × Nat × Sx.St):=
 if D=3 then (ex T n).bind fun r=>some ({ E:=[r.1] },r.2,s.part) else
 (tok 2 T n).bind fun a=>
  if D=4 then (tok 2 T a.2).bind fun b=>(ty T 9 [] b.2).bind fun y=>(tok 3 T y.2).bind fun k=>some ({ A:=a.1.text,B:=b.1.text,T:=y.1,N:=k.1.n },k.2,s)
  else if D=6 then (ex T a.2).bind fun r=>some ({ A:=a.1.text,E:=[r.1] },r.2,s.part)
  else if D=7∨D=9 then some ({ A:=a.1.text },a.2,s)
  else if D=10 then (br (arg T) T [] a.2 s).bind fun r=>some ({ A:=a.1.text,E:=r.1 },r.2.1,r.2.2)
  else none
def tr (x:Int × List UInt8 × Int):Sx.Tr:=Sx.tE x.1 x.2.1 x.2.2 []
end Bg
structure SB (w:World) (b:Nat) (vs:List Value):Prop where
 cs: ∀ (j:Nat) v,vs[j]? =some v→w.cell? ⟨b,j,none⟩=some v
 fz: ∀ o,w.frozen? ⟨b,o,none⟩=false
 lt:b<w.heap.size
theorem SB.keep {w w':World} {S:List Nat} {b:Nat} {vs:List Value} (h:SB w b vs) (k:Kp S w w') (hn:b ∉ S):SB w' b vs:=
 ⟨fun j v hv=>k.some (h.cs j v hv) hn,fun o=>(k.frozen (p:=⟨b,o,none⟩) h.lt hn).trans (h.fz o),Nat.lt_of_lt_of_le h.lt k.size⟩
theorem SB.set {w:World} {b j:Nat} {vs:List Value} {u:Value} (h:SB w b vs) (hu:vs[j]? =some u) (v:Value):SB (w.setCell ⟨b,j,none⟩ v) b (vs.set j v):=by
 refine ⟨fun i x hx=> ?_,fun o=>by simpa using h.fz o,by simpa [World.setCell] using h.lt⟩
 by_cases hi:j=i
 ·subst hi
  have hl:=(List.getElem?_eq_some_iff.1 hu).1
  rw [List.getElem?_set_self hl] at hx
  cases hx
  rw [World.cell?_setCell_same (h:=h.cs _ _ hu)]
 ·rw [List.getElem?_set_ne hi] at hx
  exact (cell_off _ _ _ _ _ hi).trans (h.cs _ _ hx)
def Cx.apart (c:Cx) (sb:Nat):Prop:=c.rb ≠ sb∧(c.full ≠ []→c.tb ≠ sb)
theorem RD.set_apart {c:Cx} {w:World} {n:Nat} {s:Sx.St} {sb:Nat} (h:RD c w n s) (hA:c.apart sb) (o:Nat) (v:Value):RD c (w.setCell ⟨sb,o,none⟩ v) n s:=
 h.keep (S:=[sb]) (Kp.rb (Kp.refl _ _) _ _) (by simpa using hA.1) (fun hne=>by simpa using hA.2 hne)
structure PB (c:Cx) (w0 w:World) (n:Nat) (s:Sx.St) (sb:Nat) (vs:List Value):Prop where
 rd:RD c w n s
 m9:SB w sb vs
 b0:w.cell? ⟨w0.heap.size,0,none⟩=some (.pointer (some ⟨c.rb,0,none⟩))
 b1:w.cell? ⟨w0.heap.size+1,0,none⟩=some (.pointer (some ⟨sb,0,none⟩))
 kp:Kp [sb,c.rb] w0 w
 rlt:c.rb<w0.heap.size
 slt:sb<w0.heap.size
 ap:c.apart sb
section
variable {c:Cx} {w0 w w1:World} {n n1:Nat} {s s1:Sx.St} {sb:Nat} {vs:List Value}
theorem PB.start (h:RD c w n s) (hA:c.apart sb) (hS:SB w sb vs) (t1 t2:TypeId):
  PB c w ((w.alloc (.cells #[.pointer (some ⟨c.rb,0,none⟩)] t1)).alloc (.cells #[.pointer (some ⟨sb,0,none⟩)] t2)) n s sb vs:=
 ⟨(h.alloc _).alloc _,hS.keep (S:=[]) (((Kp.refl _ _).alloc _).alloc _) (by simp),by simp [go_sem],by simp [go_sem],((Kp.refl _ _).alloc _).alloc _,h.rlt,hS.lt,hA⟩
theorem PB.go (h:PB c w0 w n s sb vs) (hd:RD c w1 n1 s1) (hk:Kp [c.rb] w w1):PB c w0 w1 n1 s1 sb vs:=
 ⟨hd,h.m9.keep hk (by have:=h.ap.1;simp;omega),hk.some h.b0 (by have:=h.rlt;simp;omega),hk.some h.b1 (by have:=h.rlt;simp;omega),h.kp.trans (hk.mono (by simp)),h.rlt,h.slt,h.ap⟩
theorem PB.drew (h:PB c w0 w n s sb vs):PB c w0 w.drew n s sb vs:=h.go h.rd.drew (Kp.refl _ _).drew
theorem PB.set {j:Nat} {u:Value} (h:PB c w0 w n s sb vs) (hu:vs[j]? =some u) (v:Value):PB c w0 (w.setCell ⟨sb,j,none⟩ v) n s sb (vs.set j v):=by
 have hl:=h.slt
 exact ⟨h.rd.set_apart h.ap _ _,h.m9.set hu v,(World.cell?_setCell_far _ _ _ _ (by show sb ≠ w0.heap.size;omega)).trans h.b0,(World.cell?_setCell_far _ _ _ _ (by show sb ≠ w0.heap.size+1;omega)).trans h.b1,Kp.rb h.kp _ _,h.rlt,h.slt,h.ap⟩
theorem step_cex {P:Program} {ops:Array Oper} {o:Oper} {a:Act} {w:World} {K:Act→World→Prop} {Q:Exit→Act→World→Prop} {E:Prop} (hgd:o.guard=none) (f:FuncId) {args:Array Value} (hrun:(execOp a.eval o).run P w= .ok (.enter f args) w)
  {v:Value} {R:World→Prop} (hC:Calls P f args w fun e w'=>e= .returned v∧R w') (hK: ∀ w',R w'→K (a.put o.dst v) w'):if Region.wanted o (yielded ops a.tmps)=true then Oper.wp P o a w K Q else E:=by
 have hw:Region.wanted o (yielded ops a.tmps)=true:=by simp [Region.wanted,hgd]
 rw [if_pos hw]
 unfold Oper.wp
 rw [hrun]
 show Calls P f _ w _
 refine hC.mono ?_
 rintro e w' ⟨rfl,h1⟩
 exact hK w' h1
theorem step_ex {P:Program} {ops:Array Oper} {o:Oper} {a:Act} {K:Act→World→Prop} {Q:Exit→Act→World→Prop} {E:Prop} (hgd:o.guard=none) (f:FuncId) (hrun:(execOp a.eval o).run P w= .ok (.enter f #[.pointer (some ⟨c.rb,0,none⟩)]) w) (h:PB c w0 w n s sb vs)
  {R:World→Value→Prop} (hC:Calls P f #[.pointer (some ⟨c.rb,0,none⟩)] w fun e w'=> ∃ v,R w' v∧Ok c w v n1 s1 e w') (hK: ∀ v w',PB c w0 w' n1 s1 sb vs→R w' v→K (a.put o.dst v) w'):if Region.wanted o (yielded ops a.tmps)=true then Oper.wp P o a w K Q else E:=by
 have hw:Region.wanted o (yielded ops a.tmps)=true:=by simp [Region.wanted,hgd]
 rw [if_pos hw]
 unfold Oper.wp
 rw [hrun]
 show Calls P f _ w _
 refine hC.mono ?_
 rintro e w' ⟨v,hr,rfl,h1,h2⟩
 exact hK v w' (h.go h1 h2) hr
theorem step_ok {P:Program} {ops:Array Oper} {o:Oper} {a:Act} {K:Act→World→Prop} {Q:Exit→Act→World→Prop} {E:Prop} (hgd:o.guard=none) (f:FuncId) (hrun:(execOp a.eval o).run P w= .ok (.enter f #[.pointer (some ⟨c.rb,0,none⟩)]) w) (h:PB c w0 w n s sb vs)
  {v:Value} (hC:Calls P f #[.pointer (some ⟨c.rb,0,none⟩)] w (Ok c w v n1 s1)) (hK: ∀ w',PB c w0 w' n1 s1 sb vs→K (a.put o.dst v) w'):if Region.wanted o (yielded ops a.tmps)=true then Oper.wp P o a w K Q else E:=
 step_ex hgd f hrun h (R:=fun _ u=>u=v) (hC.mono fun _ _ h=>⟨v,rfl,h⟩) (fun _ w' h1 h2=>by subst h2;exact hK w' h1)
end
def st0 (D at':Int):List Value:=[.int .i64 D,.int .i64 at',.string ⟨#[]⟩,.string ⟨#[]⟩,.string ⟨#[]⟩,.int .i64 0,.slice none 0 0,.slice none 0 0,.slice none 0 0]
def st1 (D at':Int) (x:Bg.Fl) (uE:Value):List Value:=[.int .i64 D,.int .i64 at',.string (bs x.A),.string (bs x.B),.string (bs x.T),.int .i64 x.N,uE,.slice none 0 0,.slice none 0 0]
def PlC (D:Int):Prop:= ∀ (c:Cx) (w:World) (n:Nat) (s:Sx.St) (sb:Nat) (at':Int) (x:Bg.Fl) (m:Nat) (s':Sx.St),RD c w n s→c.apart sb→SB w sb (st0 D at')→Bg.plain c.full D n s=some (x,m,s')→
 Calls Tryz.prog 133 #[.pointer (some ⟨c.rb,0,none⟩),.pointer (some ⟨sb,0,none⟩)] w fun e w'=>e= .returned (.tuple #[])∧RD c w' m s'∧Kp [sb,c.rb] w w'∧ ∃ uE,SB w' sb (st1 D at' x uE)∧EL w' (fun b=>w.heap.size≤b) 2 (x.E.map Bg.tr) uE
theorem PB.fin {c:Cx} {w0 w:World} {n:Nat} {s:Sx.St} {sb:Nat} {D at':Int} {x:Bg.Fl} {uE:Value} (h:PB c w0 w n s sb (st1 D at' x uE)) (hE:EL w (fun b=>w0.heap.size≤b) 2 (x.E.map Bg.tr) uE):
  (Ending.returned (.tuple #[]):Ending)= .returned (.tuple #[])∧RD c w n s∧Kp [sb,c.rb] w0 w∧ ∃ uE,SB w sb (st1 D at' x uE)∧EL w (fun b=>w0.heap.size≤b) 2 (x.E.map Bg.tr) uE:=⟨rfl,h.rd,h.kp,uE,h.m9,hE⟩
set_option maxRecDepth 100000 in
set_option maxHeartbeats 2000000 in
theorem plain_7 (D:Int) (hD:D=7∨D=9):PlC D:=by
 intro c w n s sb at' x m s' h hA hS hx
 have d3:(D == 3)=false:=by rcases hD with rfl|rfl<;> rfl
 have dd: ∀ k,k ∈ ([1,2,3,6,4,5,10]:List Int)→(D == k)=false:=by rcases hD with rfl|rfl<;> decide
 unfold Bg.plain at hx
 rw [if_neg (by simpa using d3)] at hx
 obtain ⟨⟨t,n1⟩,h1,hx⟩:=obind hx
 rw [if_neg (by simpa using dd 4 (by decide)),if_neg (by simpa using dd 6 (by decide)),if_pos hD] at hx
 cases hx
 have HT:=hide h1
 have HP:=hide (PB.start h hA hS 93 209)
 have l1:=HP.out.slt
 have l2:=HP.out.rlt
 have hne:=hA.1
 have hne':sb ≠ c.rb:=fun e=>hne e.symm
 have q1: ¬ sb=w.heap.size:=by omega
 have q2: ¬ sb=w.heap.size+1:=by omega
 have e1:=dd 1 (by decide)
 have e2:=dd 2 (by decide)
 have e6:=dd 6 (by decide)
 have e4:=dd 4 (by decide)
 have e5:=dd 5 (by decide)
 have e10:=dd 10 (by decide)
 have k0:=hS.cs 0 _ rfl
 have k2:=hS.cs 2 _ rfl
 have kf:=hS.fz
 clear h hA hS h1 dd hD
 go_enter Tryz.func133,Tryz.ntmps133
 go_wp2
 go_region_held_law (fun w'=>w'.cell? ⟨w.heap.size,0,none⟩=some (.pointer (some ⟨c.rb,0,none⟩))∧w'.cell? ⟨w.heap.size+1,0,none⟩=some (.pointer (some ⟨sb,0,none⟩))) ((first|exact ⟨by assumption,by assumption⟩|go_keep))
  ((refine step_ok rfl 82 (by go_simp) HP.out.drew (name_ok HT.out HP.out.drew.rd) ?_;intro w1 hP;have b0:=hP.b0;have b1:=hP.b1;have c0:=hP.m9.cs 0 _ rfl;have c2:=hP.m9.cs 2 _ rfl;have cf:=hP.m9.fz;have HP1:=hide (hP.set (j:=2) rfl (.string (bs t.text)));clear hP))
 go_wp2
 go_end0
 exact PB.fin (x:={ A:=t.text }) HP1.out (EL.nil _ _ _ _ |>.more 1)
end Go.Proofs.YteeocekjekclbaaGreatDoor
namespace Go.Proofs.YteeocekjekclbaaGreatDoor
open Go.RowKit
theorem PB.near {c:Cx} {w0 w:World} {n:Nat} {s:Sx.St} {sb:Nat} {vs:List Value} (h:PB c w0 w n s sb vs):sb ≠ c.rb∧c.rb ≠ sb∧(¬ sb=w0.heap.size)∧(¬ sb=w0.heap.size+1)∧sb<w0.heap.size∧c.rb<w0.heap.size:=by
 have h1:=h.slt
 have h2:=h.ap.1
 exact ⟨fun e=>h2 e.symm,h2,by omega,by omega,h1,h.rlt⟩
set_option maxRecDepth 100000 in
set_option maxHeartbeats 2000000 in
theorem plain_4:PlC 4:=by
 intro c w n s sb at' x m s' h hA hS hx
 obtain ⟨⟨t,n1⟩,h1,hx⟩:=obind hx
 obtain ⟨⟨u,n2⟩,h2,hx⟩:=obind hx
 obtain ⟨⟨y,n3⟩,h3,hx⟩:=obind hx
 obtain ⟨⟨k,n4⟩,h4,hx⟩:=obind hx
 cases hx
 have H1:=hide h1
 have H2:=hide h2
 have H3:=hide h3
 have H4:=hide h4
 have HP0:=hide (PB.start h hA hS 93 209)
 obtain ⟨q1,q2,q3,q4,q5,q6⟩:=HP0.out.near
 have k0:=hS.cs 0 _ rfl
 have k2:=hS.cs 2 _ rfl
 have kf:=hS.fz
 clear h hA hS
 go_enter Tryz.func133,Tryz.ntmps133
 go_wp2
 go_region_held_law (fun w'=>w'.cell? ⟨w.heap.size,0,none⟩=some (.pointer (some ⟨c.rb,0,none⟩))∧w'.cell? ⟨w.heap.size+1,0,none⟩=some (.pointer (some ⟨sb,0,none⟩))) ((first|exact ⟨by assumption,by assumption⟩|go_keep))
  ((refine step_ok rfl 82 (by go_simp) HP0.out.drew (name_ok H1.out HP0.out.drew.rd) ?_;intro w1 hP;have b0:=hP.b0;have b1:=hP.b1;have c0:=hP.m9.cs 0 _ rfl;have c2:=hP.m9.cs 2 _ rfl;have cf:=hP.m9.fz;have HR1:=hide hP;have HP1:=hide (hP.set (j:=2) rfl (.string (bs t.text)));clear hP))
 have b0:=HP1.out.b0
 have b1:=HP1.out.b1
 have c0:=HP1.out.m9.cs 0 _ rfl
 have c3:=HP1.out.m9.cs 3 _ rfl
 have cf:=HP1.out.m9.fz
 go_wp2
 go_region_held_law (fun w'=>w'.cell? ⟨w.heap.size,0,none⟩=some (.pointer (some ⟨c.rb,0,none⟩))∧w'.cell? ⟨w.heap.size+1,0,none⟩=some (.pointer (some ⟨sb,0,none⟩))) ((first|exact ⟨by assumption,by assumption⟩|go_keep))
  ((refine step_ok rfl 82 (by go_simp) HP1.out.drew (name_ok H2.out HP1.out.drew.rd) ?_;intro w2 hP;have b0:=hP.b0;have b1:=hP.b1;have c0:=hP.m9.cs 0 _ rfl;have c3:=hP.m9.cs 3 _ rfl;have cf:=hP.m9.fz;have HR2:=hide hP;have HP2:=hide (hP.set (j:=3) rfl (.string (bs u.text)));clear hP))
 have b0:=HP2.out.b0
 have b1:=HP2.out.b1
 have c0:=HP2.out.m9.cs 0 _ rfl
 have c4:=HP2.out.m9.cs 4 _ rfl
 have cf:=HP2.out.m9.fz
 go_wp2
 go_region_held_law (fun w'=>w'.cell? ⟨w.heap.size,0,none⟩=some (.pointer (some ⟨c.rb,0,none⟩))∧w'.cell? ⟨w.heap.size+1,0,none⟩=some (.pointer (some ⟨sb,0,none⟩))) ((first|exact ⟨by assumption,by assumption⟩|go_keep))
  ((refine step_ok rfl 85 (by go_simp) HP2.out.drew (typeText_ok H3.out HP2.out.drew.rd) ?_;intro w3 hP;have b0:=hP.b0;have b1:=hP.b1;have c0:=hP.m9.cs 0 _ rfl;have c4:=hP.m9.cs 4 _ rfl;have cf:=hP.m9.fz;have HR3:=hide hP;have HP3:=hide (hP.set (j:=4) rfl (.string (bs y)));clear hP))
 have b0:=HP3.out.b0
 have b1:=HP3.out.b1
 have c0:=HP3.out.m9.cs 0 _ rfl
 have c5:=HP3.out.m9.cs 5 _ rfl
 have cf:=HP3.out.m9.fz
 go_wp2
 go_region_held_law (fun w'=>w'.cell? ⟨w.heap.size,0,none⟩=some (.pointer (some ⟨c.rb,0,none⟩))∧w'.cell? ⟨w.heap.size+1,0,none⟩=some (.pointer (some ⟨sb,0,none⟩))) ((first|exact ⟨by assumption,by assumption⟩|go_keep))
  ((refine step_ok rfl 146 (by go_simp) HP3.out.drew (number_ok H4.out HP3.out.drew.rd) ?_;intro w4 hP;have b0:=hP.b0;have b1:=hP.b1;have c0:=hP.m9.cs 0 _ rfl;have c5:=hP.m9.cs 5 _ rfl;have cf:=hP.m9.fz;have HR4:=hide hP;have HP4:=hide (hP.set (j:=5) rfl (.int .i64 k.n));clear hP))
 go_wp2
 go_end0
 exact PB.fin (x:={ A:=t.text,B:=u.text,T:=y,N:=k.n }) HP4.out (EL.nil _ _ _ _ |>.more 1)
end Go.Proofs.YteeocekjekclbaaGreatDoor
namespace Go.Proofs.YteeocekjekclbaaGreatDoor
open Go.RowKit
abbrev Ow.Ac:=Int × Int × Nat
def Ow.turn1 (acts:List Ow.Ac) (T:List (Int × Int)) (k:Nat):Option (List (Int × Int)):=match acts[k]? with
 |some a=>match T[a.2.2]? with
  |some t=>if (a.1=1∨a.1=2∨a.1=3∨a.1=4)∧0≤a.2.1∧a.2.1≤1000000 then some (T.set a.2.2 (Ow.and t a.1 a.2.1)) else none
  |none=>none
 |none=>none
def Ow.turnsGo (acts:List Ow.Ac):List (Int × Int)→List Nat→Option (List (Int × Int))
 |T,[]=>some T
 |T,k::r=>(Ow.turn1 acts T k).bind fun T2=>Ow.turnsGo acts T2 r
def Ow.turns (acts:List Ow.Ac) (n:Nat) (band:List Nat):Option (List (Int × Int)):=Ow.turnsGo acts (List.replicate n (0,0)) band
end Go.Proofs.YteeocekjekclbaaGreatDoor
namespace Go.Proofs.YteeocekjekclbaaGreatDoor
open Go.RowKit
def IR (w:World) (v:Value) (l:List Int):Prop:=
 ∃ a c,v= .slice a l.length c∧(l ≠ []→ ∃ g o,a=some ⟨g,o,none⟩∧ ∀ (k:Nat) x,l[k]? =some x→w.cell? ⟨g,o+k,none⟩=some (.int .i64 x))
theorem IR.keep {w w':World} {v:Value} {l:List Int} (h:IR w v l) (hb:Below w.heap.size w w'):IR w' v l:=by
 obtain ⟨a,c,h1,h2⟩:=h
 refine ⟨a,c,h1,fun hn=> ?_⟩
 obtain ⟨g,o,h3,h4⟩:=h2 hn
 exact ⟨g,o,h3,fun k x hx=>bsome hb (h4 k x hx)⟩
def RR2 (w:World) (v:Value) (L:List (List Int)):Prop:=
 ∃ a c,v= .slice a L.length c∧(L ≠ []→ ∃ g o,a=some ⟨g,o,none⟩∧ ∀ (k:Nat) l,L[k]? =some l→ ∃ u,w.cell? ⟨g,o+k,none⟩=some u∧IR w u l)
def AcX (w:World) (v:Value) (ac:List Ow.Ac):Prop:=
 ∃ a c,v= .slice a ac.length c∧(ac ≠ []→ ∃ g o,a=some ⟨g,o,none⟩∧ ∀ (k:Nat) x,ac[k]? =some x→w.cell? ⟨g,o+k * 3,none⟩=some (.int .i64 x.1)∧w.cell? ⟨g,o+k * 3+1,none⟩=some (.int .i64 x.2.1)∧w.cell? ⟨g,o+k * 3+2,none⟩=some (.int .i64 (x.2.2:Nat)))
theorem RR2.keep {w w':World} {v:Value} {L:List (List Int)} (h:RR2 w v L) (hb:Below w.heap.size w w'):RR2 w' v L:=by
 obtain ⟨a,c,h1,h2⟩:=h
 refine ⟨a,c,h1,fun hn=> ?_⟩
 obtain ⟨g,o,h3,h4⟩:=h2 hn
 refine ⟨g,o,h3,fun k l hl=> ?_⟩
 obtain ⟨u,h5,h6⟩:=h4 k l hl
 exact ⟨u,bsome hb h5,h6.keep hb⟩
theorem AcX.keep {w w':World} {v:Value} {ac:List Ow.Ac} (h:AcX w v ac) (hb:Below w.heap.size w w'):AcX w' v ac:=by
 obtain ⟨a,c,h1,h2⟩:=h
 refine ⟨a,c,h1,fun hn=> ?_⟩
 obtain ⟨g,o,h3,h4⟩:=h2 hn
 exact ⟨g,o,h3,fun k x hx=>⟨bsome hb (h4 k x hx).1,bsome hb (h4 k x hx).2.1,bsome hb (h4 k x hx).2.2⟩⟩
structure CoX (g:Nat) (q:PV) (p:Cd.Pr) (nx:List (List Int)) (ac:List Ow.Ac) (bd:List (List Int)) (w:World):Prop where
 cp:CoP g q p w
 n5: ∃ u,w.cell? ⟨g,5,none⟩=some u∧RR2 w u nx
 n6: ∃ u,w.cell? ⟨g,6,none⟩=some u∧AcX w u ac
 n7: ∃ u,w.cell? ⟨g,7,none⟩=some u∧RR2 w u bd
theorem CoX.keep {g:Nat} {q:PV} {p:Cd.Pr} {nx bd:List (List Int)} {ac:List Ow.Ac} {w w':World} (h:CoX g q p nx ac bd w) (hb:Below w.heap.size w w'):CoX g q p nx ac bd w':=by
 obtain ⟨u5,a5,b5⟩:=h.n5
 obtain ⟨u6,a6,b6⟩:=h.n6
 obtain ⟨u7,a7,b7⟩:=h.n7
 exact ⟨h.cp.keep hb,⟨u5,bsome hb a5,b5.keep hb⟩,⟨u6,bsome hb a6,b6.keep hb⟩,⟨u7,bsome hb a7,b7.keep hb⟩⟩
def Ow.tcs (T:List (Int × Int)):List Value:=T.flatMap fun t=>[.int .u64 t.1,.int .u64 t.2]
theorem Ow.tcs_at {T:List (Int × Int)} {k:Nat} {t:Int × Int} (h:T[k]? =some t):(Ow.tcs T)[k * 2]? =some (.int .u64 t.1)∧(Ow.tcs T)[k * 2+1]? =some (.int .u64 t.2):=by
 induction T generalizing k with
 |nil=>cases h
 |cons x r ih=>
  cases k with
  |zero=>cases h;exact ⟨rfl,rfl⟩
  |succ k=>
   rw [show (k+1) * 2=k * 2+2 from by omega]
   exact ih (by simpa using h)
theorem Ow.tcs_set (T:List (Int × Int)) (k:Nat) (t:Int × Int):Ow.tcs (T.set k t)=((Ow.tcs T).set (k * 2) (.int .u64 t.1)).set (k * 2+1) (.int .u64 t.2):=by
 induction T generalizing k with
 |nil=>rfl
 |cons x r ih=>
  cases k with
  |zero=>rfl
  |succ k=>
   rw [show (k+1) * 2=k * 2+1+1 from by omega]
   show [Value.int .u64 x.1,.int .u64 x.2]++Ow.tcs (r.set k t)=_
   rw [ih]
   rfl
theorem Ow.tcs_rep (n:Nat):Ow.tcs (List.replicate n (0,0))=List.replicate (n * 2) (.int .u64 0):=by
 induction n with
 |zero=>rfl
 |succ n ih=>
  rw [show (n+1) * 2=n * 2+1+1 from by omega,List.replicate_succ,List.replicate_succ,List.replicate_succ,←ih]
  rfl
theorem SB.setT {w:World} {b k:Nat} {T:List (Int × Int)} {t:Int × Int} (h:SB w b (Ow.tcs T)) (hk:T[k]? =some t) (u:Int × Int):SB ((w.setCell ⟨b,k * 2,none⟩ (.int .u64 u.1)).setCell ⟨b,k * 2+1,none⟩ (.int .u64 u.2)) b (Ow.tcs (T.set k u)):=by
 rw [Ow.tcs_set]
 refine (h.set (Ow.tcs_at hk).1 _).set (u:= .int .u64 t.2) ?_ _
 rw [List.getElem?_set_ne (by omega)]
 exact (Ow.tcs_at hk).2
theorem Tryz.infoTurn:(Tryz.prog.info? 125).map (fun i=>(i.zero,i.size,i.bytes))=some (some (.agg #[.int .u64 0,.int .u64 0]),2,16):=by kernel_rfl
theorem made_two (n k:Nat) (h:k<n * 2):(madeCells #[Value.int .u64 0,.int .u64 0] (n * 2))[k]? =some (.int .u64 0):=by
 unfold madeCells
 rw [Array.getElem?_map]
 have:k % 2=0∨k % 2=1:=by omega
 rcases this with e|e<;> simp [h,e]
theorem make_turns (n:Nat) (hn:n≤3000): ∃ Z:Array Value,(∀ k,k<n * 2→Z[k]? =some (.int .u64 0))∧ ∀ w:World,(Instr.makeSlice 151 (.int .i64 (n:Int)) (.int .i64 (n:Int))).run Tryz.prog w= .ok (.slice (some ⟨w.heap.size,0,none⟩) n n) (w.alloc (.cells Z 125)):=by
 obtain ⟨i0,hi,hz0,hz1,hz2⟩:=info_parts Tryz.infoTurn
 refine ⟨madeCells #[Value.int .u64 0,.int .u64 0] (n * 2),made_two n,fun w=> ?_⟩
 have:=run_make (P:=Tryz.prog) w 151 125 i0 (.agg #[.int .u64 0,.int .u64 0]) Tryz.underlying151 hi hz0 .i64 .i64 (n:Int) (n:Int) (by omega) (Int.le_refl _) (by rw [hz2];omega) (by omega)
 rw [hz1] at this
 simpa [Value.cells] using this
theorem sb_made (w:World) (Z:Array Value) (n:Nat) (u:Value) (t:TypeId) (hZ: ∀ k,k<n→Z[k]? =some u):SB (w.alloc (.cells Z t)) w.heap.size (List.replicate n u):=by
 refine ⟨fun k x hx=> ?_,fun k=>by simp [go_sem],by simp⟩
 rw [List.getElem?_replicate] at hx
 split at hx
 ·rename_i hk
  cases hx
  have:=hZ k hk
  simp [go_sem,this]
 ·cases hx
end Go.Proofs.YteeocekjekclbaaGreatDoor
namespace Go.Proofs.YteeocekjekclbaaGreatDoor
open Go.RowKit
theorem Ow.turn1_some {acts:List Ow.Ac} {T T2:List (Int × Int)} {k:Nat} (h:Ow.turn1 acts T k=some T2): ∃ a t,acts[k]? =some a∧T[a.2.2]? =some t∧(a.1=1∨a.1=2∨a.1=3∨a.1=4)∧0≤a.2.1∧a.2.1≤1000000∧T2=T.set a.2.2 (Ow.and t a.1 a.2.1):=by
 unfold Ow.turn1 at h
 cases ha:acts[k]? with
 |none=>rw [ha] at h;cases h
 |some a=>
  rw [ha] at h
  dsimp only at h
  cases ht:T[a.2.2]? with
  |none=>rw [ht] at h;cases h
  |some t=>
   rw [ht] at h
   dsimp only at h
   split at h
   ·rename_i hc
    cases h
    exact ⟨a,t,rfl,ht,hc.1,hc.2.1,hc.2.2,rfl⟩
   ·cases h
theorem IR.at {w:World} {a:Option Addr} {n c:Nat} {l:List Int} {k:Nat} {x:Int} (h:IR w (.slice a n c) l) (hx:l[k]? =some x): ∃ g o,a=some ⟨g,o,none⟩∧w.cell? ⟨g,o+k,none⟩=some (.int .i64 x):=by
 obtain ⟨a2,c2,e,h2⟩:=h
 obtain ⟨rfl,-⟩:a=a2∧n=l.length∧c=c2:=by simpa using e
 obtain ⟨g,o,e3,h4⟩:=h2 (List.ne_nil_of_mem (List.mem_of_getElem? hx))
 exact ⟨g,o,e3,h4 k x hx⟩
theorem dropAt {α:Type} {l:List α} {k:Nat} {d:α} (h:l[k]? =some d):l.drop k=d::l.drop (k+1):=by
 obtain ⟨h1,h2⟩:=List.getElem?_eq_some_iff.1 h
 rw [List.drop_eq_getElem_cons h1,h2]
set_option maxRecDepth 100000 in
set_option maxHeartbeats 4000000 in
theorem oTurns_any {g:Nat} {q:PV} {p:Cd.Pr} {nx bd:List (List Int)} {ac:List Ow.Ac} {w:World} (h:CoX g q p nx ac bd w) (b:Nat) (band:List Nat) (hb:bd[b]? =some (band.map Int.ofNat)) (hl:p.ins.length≤3000) (hll:band.length≤100000) (T:List (Int × Int)) (hT:Ow.turns ac p.ins.length band=some T):
  Calls Tryz.prog 70 #[.pointer (some ⟨g,0,none⟩),.int .i64 b] w fun e w'=>e= .returned (.slice (some ⟨w.heap.size,0,none⟩) p.ins.length p.ins.length)∧SB w' w.heap.size (Ow.tcs T)∧Below w.heap.size w w':=by
 obtain ⟨Z,hZ,mk⟩:=make_turns p.ins.length hl
 obtain ⟨u6,a6,⟨aa,ca,rfl,hac⟩⟩:=h.n6
 obtain ⟨u7,a7,⟨ab,cb,rfl,hbd⟩⟩:=h.n7
 obtain ⟨gb,ob',rfl,hbd2⟩:=hbd (List.ne_nil_of_mem (List.mem_of_getElem? hb))
 obtain ⟨ub,b1,b2⟩:=hbd2 b _ hb
 obtain ⟨ax,cx,rfl,-⟩:=id b2
 rw [List.length_map] at b1 b2
 have hb0:(0:Int)≤(b:Int):=by omega
 have hb1:(b:Int)<(bd.length:Int):=by have:=(List.getElem?_eq_some_iff.1 hb).1;omega
 have c4:=h.cp.c4
 have hW:Below w.heap.size w (w.alloc (.cells Z 125)):=(Below.refl _ _).alloc (Nat.le_refl _) _
 have S0:Hid (SB (w.alloc (.cells Z 125)) w.heap.size (Ow.tcs (List.replicate p.ins.length (0,0)))):=hide (by rw [Ow.tcs_rep];exact sb_made w Z _ _ _ hZ)
 have HT:=hide hT
 have HAC:=hide hac
 have HB2:=hide b2
 have k7:=bsome hW a7
 have k6:=bsome hW a6
 have kb:=bsome hW b1
 have H6:=hide a6
 have HW:=hide hW
 have hgl:=World.block_lt_of_cell? _ _ a6
 clear h hT hac b2 hbd hbd2 hb
 go_enter Tryz.func70,Tryz.ntmps70
 go_wp2
 go_loopw [24] (fun iv wr=> ∃ (i:Nat) (T':List (Int × Int)),i≤band.length∧iv= .int .i64 i∧Hid (Ow.turnsGo ac T' (band.drop i)=some T)∧Hid (SB wr w.heap.size (Ow.tcs T'))∧Hid (Below w.heap.size w wr)∧T'.length=p.ins.length) (fun iv _=>band.length - (intOf iv).toNat)
 case atStart=>exact ⟨0,_,Nat.zero_le _,rfl,HT,S0,HW,by simp⟩
 case round=>
  obtain ⟨i,T',hil,rfl,HG,HS,HB,hTl⟩:=hrel
  by_cases hlt:i<band.length
  ·have d1:decide ((i:Int)<(band.length:Int))=true:=by simp;omega
   obtain ⟨k,hk⟩: ∃ k,band[i]? =some k:=⟨_,List.getElem?_eq_getElem hlt⟩
   have hg:=HG.out
   rw [show band.drop i=k::band.drop (i+1) from dropAt hk] at hg
   obtain ⟨T2,h2,h3⟩:=obind hg
   obtain ⟨⟨xa,xv,xi⟩,⟨tc,tl⟩,e1,e2,e3,e4,e5,rfl⟩:=Ow.turn1_some h2
   dsimp only at e2 e3 e4 e5 h3
   obtain ⟨gx,ox,rfl,y0⟩:=(HB2.out.keep HB.out).at (k:=i) (x:=(k:Int)) (by simp [hk])
   obtain ⟨ga,oa,rfl,hac⟩:=HAC.out (List.ne_nil_of_mem (List.mem_of_getElem? e1))
   obtain ⟨z0,z1,z2⟩:=hac k (xa,xv,xi) e1
   have z0:=bsome HB.out z0
   have z1:=bsome HB.out z1
   have z2:=bsome HB.out z2
   have k6:=bsome HB.out H6.out
   have hk0:(0:Int)≤(i:Int):=by omega
   have hk1:(i:Int)<(band.length:Int):=by omega
   have hj0:(0:Int)≤(k:Int):=by omega
   have hj1:(k:Int)<(ac.length:Int):=by have:=(List.getElem?_eq_some_iff.1 e1).1;omega
   have hm0:(0:Int)≤(xi:Int):=by omega
   have hm1:(xi:Int)<(p.ins.length:Int):=by have:=(List.getElem?_eq_some_iff.1 e2).1;omega
   obtain ⟨q0,q1⟩:=Ow.tcs_at e2
   dsimp only at q0 q1
   have s0:=HS.out.cs _ _ q0
   have s1:=HS.out.cs _ _ q1
   have sf:=HS.out.fz
   have hwl:=HS.out.lt
   have hwn:w.heap.size ≠ wr.heap.size:=by omega
   have H3:=hide h3
   have HE2:=hide e2
   have CA:=hide (fun w'=>oAnd_any tc tl xa xv w' e3 e4 e5)
   have hbA:Below w.heap.size w (wr.alloc (.cells #[.int .i64 xa,.int .i64 xv,.int .i64 (xi:Nat)] 83)):=btrans HB.out ((Below.refl _ _).alloc (Nat.le_refl _) _)
   clear hg h2 h3 hac e1 e2 hk
   generalize hU:Ow.and (tc,tl) xa xv=U at *
   have HU:=hide hU
   clear hU
   have KW:Hid (Kp [] wr ((wr.alloc (.cells #[.int .i64 xa,.int .i64 xv,.int .i64 (xi:Nat)] 83)).drew)):=hide (((Kp.refl _ _).alloc _).drew)
   have HBA:=hide hbA
   go_wp2
   have r0:(wr.alloc (.cells #[.int .i64 xa,.int .i64 xv,.int .i64 (xi:Nat)] 83)).drew.cell? ⟨wr.heap.size,0,none⟩=some (.int .i64 xa):=by simp [go_sem]
   have r1:(wr.alloc (.cells #[.int .i64 xa,.int .i64 xv,.int .i64 (xi:Nat)] 83)).drew.cell? ⟨wr.heap.size,1,none⟩=some (.int .i64 xv):=by simp [go_sem]
   have r2:(wr.alloc (.cells #[.int .i64 xa,.int .i64 xv,.int .i64 (xi:Nat)] 83)).drew.cell? ⟨wr.heap.size,2,none⟩=some (.int .i64 (xi:Nat)):=by simp [go_sem]
   have r3:=KW.out.some s0 (by simp)
   have r4:=KW.out.some s1 (by simp)
   have HS1:=hide (HS.out.keep KW.out (by simp))
   have hbD:Below w.heap.size w ((wr.alloc (.cells #[.int .i64 xa,.int .i64 xv,.int .i64 (xi:Nat)] 83)).drew):=⟨hbA.os,hbA.tape,hbA.output,hbA.size,hbA.block⟩
   have HBD:=hide hbD
   clear hbA hbD s0 s1 sf z0 z1 z2 k6 y0 HBA
   go_region_law
    ((refine step_cex rfl 44 (args:= #[.agg #[.int .u64 tc,.int .u64 tl],.agg #[.int .i64 xa,.int .i64 xv]]) ?_ (CA.out _) ?_;(focus (go_simp;done));intro w5 hb5;have m0:=bsome hb5 r0;have m1:=bsome hb5 r1;have m2:=bsome hb5 r2;have m3:=bsome hb5 r3;have m4:=bsome hb5 r4;have HS5:=hide (HS1.out.keep (Kp.of_below (S:=[]) hb5) (by simp));have sf5:=HS5.out.fz;have HB5:=hide (btrans HBD.out hb5);have l5:=HS5.out.lt;clear hb5))
   all_goals
    have HS6:=hide (HS5.out.setT HE2.out U)
    have HB6:Hid (Below w.heap.size w ((w5.setCell ⟨w.heap.size,xi * 2,none⟩ (.int .u64 U.1)).setCell ⟨w.heap.size,xi * 2+1,none⟩ (.int .u64 U.2))):=hide ((HB5.out.setCell (Nat.le_refl _) _).setCell (Nat.le_refl _) _)
    go_wp2
    go_roundw
    case rel=>exact ⟨i+1,_,by omega,by go_num,H3,HS6,HB6,by simp [hTl]⟩
    case measure=>simp [intOf];omega
  ·obtain rfl:i=band.length:=by omega
   have d1:decide ((band.length:Int)<(band.length:Int))=false:=by simp
   have hg:=HG.out
   rw [List.drop_length] at hg
   cases hg
   go_wp2
   go_ret
   exact ⟨rfl,HS.out,HB.out⟩
end Go.Proofs.YteeocekjekclbaaGreatDoor
