import Derived.Test.YtcdcoiobpbdmpaaGreatDoorMad
import Derived.Deep.RegionLaw
import Derived.Deep.RegionHeldLaw
import Derived.Deep.AppendLies
namespace Go.Proofs.YtcdcoiobpbdmpaaGreatDoor
open Go.RowKit
structure LX (c:Cx) (w0 w:World) (v n:Nat) (s:Sx.St) (x:Int × List UInt8 × Int):Prop where
 v2:V2 w w0.heap.size v x
 rd:RD c w n s
 kp:Kp [c.rb] w0 w
 b:c.below w0.heap.size
 lt:w0.heap.size<v
theorem LX.drewN {c:Cx} {w0 w:World} {v n:Nat} {s:Sx.St} {x:Int × List UInt8 × Int} (h:LX c w0 w v n s x) (k:Nat):LX c w0 (w.drewN k) v n s x:=
 ⟨h.v2.keep ((Kp.refl [] _).drewN k) (by simp) (by simp),h.rd.drewN k,h.kp.drewN k,h.b,h.lt⟩
theorem LX.start {c:Cx} {w w0 w1:World} {n:Nat} {s:Sx.St} {x:Int × List UInt8 × Int} (hb:c.below w.heap.size) (h0:X4 w0 w.heap.size (.int .i64 0) (.string ⟨#[]⟩) (.int .i64 0) (.slice none 0 0)) (k0:Kp [c.rb] w w0) (hd:RD c w1 n s) (hk:Kp [c.rb] w0 w1) (t:TypeId):
  LX c w (w1.alloc (.cells #[.int .i64 x.1,.string (bs x.2.1),.int .i64 x.2.2,.slice none 0 0] t)) w1.heap.size n s x:=by
 have hl:=World.block_lt_of_cell? w0 ⟨w.heap.size,0,none⟩ h0.c0
 have hs:=hk.size
 simp only at hl
 exact ⟨⟨(h0.keep hk (by have:=hb.1;simp;omega)).keep ((Kp.refl [] _).alloc _) (by simp),X4.new _ _ _ _ _ _⟩,hd.alloc _,(k0.trans hk).alloc _,hb,by omega⟩
theorem LX.fin {c:Cx} {w0 w:World} {v n:Nat} {s:Sx.St} {x:Int × List UInt8 × Int} (h:LX c w0 w v n s x):Ok c w0 (lf x) n s (.returned (lf x)) ((((w.setCell ⟨w0.heap.size,0,none⟩ (.int .i64 x.1)).setCell ⟨w0.heap.size,1,none⟩ (.string (bs x.2.1))).setCell ⟨w0.heap.size,2,none⟩ (.int .i64 x.2.2)).setCell ⟨w0.heap.size,3,none⟩ (.slice none 0 0)):=
 ⟨rfl,h.rd.set4 h.b (Nat.le_refl _) _ _ _ _,h.kp.nb4 (Nat.le_refl _) _ _ _ _⟩
set_option maxRecDepth 100000 in
set_option maxHeartbeats 1000000 in
theorem product_ok {x:Int × List UInt8 × Int} {c:Cx} {w:World} {n m:Nat} {s:Sx.St} (hx:Bg.ex c.full n=some (x,m)) (h:RD c w n s):
  Calls Tryz.prog 187 #[.pointer (some ⟨c.rb,0,none⟩)] w (Ok c w (lf x) m s.part):=by
 have HX:=hide hx
 have HH:=hide h
 have HB:=hide h.lt
 obtain ⟨_,_,_,_,_,hq,_⟩:=ex_of hx
 have HQ:=hide (hq [42] (by decide))
 clear hx h hq
 go_enter Tryz.func187,Tryz.ntmps187
 go_wp2_with fail
 refine (unit_ok HX.out (by exact HH.out.alloc _)).mono ?_
 rintro e w1 ⟨rfl,hd1,hk1⟩
 have HS:=hide (LX.start (x:=x) HB.out (X4.new w _ _ _ _ 112) ((Kp.refl _ _).alloc _) hd1 hk1 112)
 clear hd1 hk1
 simp only [lf]
 go_wp2_with fail
 go_loopw [] (fun wr=>LX c w wr w1.heap.size m s.part x) (fun wr=>0)
 case atStart=>exact HS.out
 case round=>
  have hlt:=hrel.lt
  obtain ⟨x0,x1,x2,x3,xf⟩:=hrel.v2.x
  obtain ⟨y0,y1,y2,y3,yf⟩:=hrel.v2.z
  have HL:=hide hrel
  clear hrel
  go_wp2_with fail
  refine (sees_no ⟨#[42]⟩ HQ.out HL.out.rd).mono ?_
  rintro e w2 ⟨rfl,kk,rfl⟩
  go_wp2
  exact bodyPost_ret (v:=lf x) (by simp [results,Tryz.results187,go_sem,y0,y1,y2,y3,lf]) rfl (HL.out.drewN kk).fin
set_option maxRecDepth 100000 in
set_option maxHeartbeats 1000000 in
theorem sum_ok {x:Int × List UInt8 × Int} {c:Cx} {w:World} {n m:Nat} {s:Sx.St} (hx:Bg.ex c.full n=some (x,m)) (h:RD c w n s):
  Calls Tryz.prog 179 #[.pointer (some ⟨c.rb,0,none⟩)] w (Ok c w (lf x) m s.part):=by
 have HX:=hide hx
 have HH:=hide h
 have HB:=hide h.lt
 obtain ⟨_,_,_,_,_,hq,_⟩:=ex_of hx
 have HQ:=hide (hq [43] (by decide))
 have HQ':=hide (hq [45] (by decide))
 clear hx h hq
 go_enter Tryz.func179,Tryz.ntmps179
 go_wp2_with fail
 refine (product_ok HX.out (by exact HH.out.alloc _)).mono ?_
 rintro e w1 ⟨rfl,hd1,hk1⟩
 have HS:=hide (LX.start (x:=x) HB.out (X4.new w _ _ _ _ 112) ((Kp.refl _ _).alloc _) hd1 hk1 112)
 clear hd1 hk1
 simp only [lf]
 go_wp2_with fail
 go_loopw [] (fun wr=>LX c w wr w1.heap.size m s.part x) (fun wr=>0)
 case atStart=>exact HS.out
 case round=>
  have hlt:=hrel.lt
  obtain ⟨x0,x1,x2,x3,xf⟩:=hrel.v2.x
  obtain ⟨y0,y1,y2,y3,yf⟩:=hrel.v2.z
  have HL:=hide hrel
  clear hrel
  go_wp2_with fail
  refine (sees_no ⟨#[43]⟩ HQ.out HL.out.rd).mono ?_
  rintro e w2 ⟨rfl,kk,rfl⟩
  go_wp2_with fail
  refine (sees_no ⟨#[45]⟩ HQ'.out (HL.out.drewN _).rd).mono ?_
  rintro e w2 ⟨rfl,k2,rfl⟩
  go_wp2
  exact bodyPost_ret (v:=lf x) (by simp [results,Tryz.results179,go_sem,y0,y1,y2,y3,lf]) rfl (HL.out.drewN (kk+k2)).fin
set_option maxRecDepth 100000 in
set_option maxHeartbeats 1000000 in
theorem expr_ok {x:Int × List UInt8 × Int} {c:Cx} {w:World} {n m:Nat} {s:Sx.St} (hx:Bg.ex c.full n=some (x,m)) (h:RD c w n s):
  Calls Tryz.prog 167 #[.pointer (some ⟨c.rb,0,none⟩)] w (Ok c w (lf x) m s.part):=by
 have HX:=hide hx
 have HH:=hide h
 have HB:=hide h.lt
 obtain ⟨_,_,_,_,_,hq,_⟩:=ex_of hx
 have HQ:=hide (hq [60] (by decide))
 have HQ':=hide (hq [61,61] (by decide))
 have hr:=h.rlt
 have c6:=h.c6
 have bs6:s.parts≤12000:=by have:=h.b6;omega
 clear hx h hq
 have HA:=hide (fun w h=>at_any c w n s h)
 generalize Sx.place c.e (c.full.drop n)=pl at *
 go_enter Tryz.func167,Tryz.ntmps167
 go_wp2
 go_quiet ((go_at_call 90;exact Calls.quiet_of (HA.out _ (by exact (HH.out.alloc _).drewN _))))
 go_wp2_with fail
 refine (sum_ok HX.out (by exact (HH.out.alloc _).drewN _)).mono ?_
 rintro e w1 ⟨rfl,hd1,hk1⟩
 have HS:=hide (LX.start (x:=x) HB.out ((X4.new w _ _ _ _ 112).keep ((Kp.refl [] _).drewN _) (by simp)) (((Kp.refl _ _).alloc _).drewN _) hd1 hk1 112)
 have hlt:=HS.out.lt
 obtain ⟨x0,x1,x2,x3,xf⟩:=HS.out.v2.x
 obtain ⟨y0,y1,y2,y3,yf⟩:=HS.out.v2.z
 have g6:=HS.out.rd.c6
 simp only [Sx.St.part] at g6
 clear hd1 hk1 c6
 simp only [lf]
 go_wp2_with fail
 refine (sees_no ⟨#[60]⟩ HQ.out HS.out.rd).mono ?_
 rintro e w2 ⟨rfl,kk,rfl⟩
 go_wp2_with fail
 refine (sees_no ⟨#[61,61]⟩ HQ'.out (HS.out.drewN _).rd).mono ?_
 rintro e w2 ⟨rfl,k2,rfl⟩
 go_wp2
 exact bodyPost_ret (v:=lf x) (by simp [results,Tryz.results167,go_sem,y0,y1,y2,y3,lf]) rfl (HS.out.drewN (kk+k2)).fin
set_option maxRecDepth 100000 in
set_option maxHeartbeats 1000000 in
theorem exprs_ok {x:Int × List UInt8 × Int} {c:Cx} {w:World} {n m:Nat} {s:Sx.St} (hx:Bg.ex c.full n=some (x,m)) (h:RD c w n s):
  Calls Tryz.prog 164 #[.pointer (some ⟨c.rb,0,none⟩)] w fun e w'=> ∃ v,(EL w' (fun b=>w.heap.size≤b) 2 [Sx.tE x.1 x.2.1 x.2.2 []] v∧ ∃ g,v= .slice (some ⟨g,0,none⟩) 1 1)∧Ok c w v m s.part e w':=by
 have HO:=hide (expr_ok hx h)
 clear h hx
 go_enter Tryz.func164,Tryz.ntmps164
 go_wp2_with fail
 refine HO.out.mono ?_
 rintro e w1 ⟨rfl,hd,hk⟩
 have HD:=hide hd
 have HK:=hide hk
 clear hd hk
 simp only [lf]
 go_wp2
 go_ret
 have X:=X4.new w1 (.int .i64 x.1) (.string (bs x.2.1)) (.int .i64 x.2.2) (.slice none 0 0) 112
 exact ⟨_,⟨EL.one HK.out.size X.c0 X.c1 X.c2 X.c3 (EL.nil _ _ _ _),_,rfl⟩,rfl,HD.out.alloc _,HK.out.alloc _⟩
end Go.Proofs.YtcdcoiobpbdmpaaGreatDoor
namespace Go.Proofs.YtcdcoiobpbdmpaaGreatDoor
open Go.RowKit
namespace Bg
def ty (T:List Tk.Tok):Nat→List UInt8→Nat→Option (List UInt8 × Nat)
 |0,_,_=>none
 |f+1,acc,n=>if Sx.txt (T.drop n)=Sx.wSend∨Sx.txt (T.drop n)=Sx.wRecv then (if acc.length=3 then none else ty T f (acc++(Sx.txt (T.drop n)).take 1) (n+1)) else (skp Sx.wInt T n).bind fun m=>some (acc++[105],m)
def brL {α:Type} (one:α→Nat→Sx.St→Option (α × Nat × Sx.St)) (T:List Tk.Tok):Nat→Nat→α→Nat→Sx.St→Option (α × Nat × Sx.St)
 |0,_,_,_,_=>none
 |f+1,k,a,n,s=>if Sx.txt (T.drop n)=[44] then (if k=6 then none else (one a (n+1) s).bind fun r=>brL one T f (k+1) r.1 r.2.1 r.2.2) else some (a,n,s)
def br {α:Type} (one:α→Nat→Sx.St→Option (α × Nat × Sx.St)) (T:List Tk.Tok) (a:α) (n:Nat) (s:Sx.St):Option (α × Nat × Sx.St):=
 (skp [40] T n).bind fun n=>if Sx.txt (T.drop n)=[41] then none else (one a n s).bind fun r=>(brL one T 7 1 r.1 r.2.1 r.2.2).bind fun r=>(skp [41] T r.2.1).bind fun m=>some (r.1,m,r.2.2)
end Bg
def nextOf (c:Cx) (w:World):Nat:=(intOf ((w.cell? ⟨c.rb,1,none⟩).getD (.int .i64 0))).toNat
theorem RD.nx {c:Cx} {w:World} {n:Nat} {s:Sx.St} (h:RD c w n s):nextOf c w=n:=by
 unfold nextOf
 rw [h.c1]
 simp [intOf]
theorem bs_snoc (l:List UInt8) (b:UInt8):bs l++(⟨#[b]⟩:ByteArray)=bs (l++[b]):=by
 apply ByteArray.ext
 rw [ByteArray.data_append]
 simp [bs]
theorem text_is {c:Cx} {w:World} {n:Nat} {s:Sx.St} (x:ByteArray) (hx:Sx.txt (c.full.drop n)=x.data.toList) (h:RD c w n s):
  Calls Tryz.prog 97 #[.pointer (some ⟨c.rb,0,none⟩)] w fun e w'=>e= .returned (.string x)∧ ∃ k,w'=w.drewN k:=by
 have:=text_any c w n s h
 rw [hx,show bs x.data.toList=x from by simp [bs]] at this
 exact this
def tyJ (c:Cx) (w:World) (s:Sx.St) (r:List UInt8 × Nat) (t:Value) (wr:World):Prop:= ∃ (f:Nat) (acc:List UInt8) (n:Nat) (ba:ByteArray),t= .string ba∧Hid (ba=bs acc)∧ba.size≤3∧Hid (Bg.ty c.full f acc n=some r)∧Hid (RD c wr n s)∧Hid (Kp [c.rb] w wr)
set_option maxRecDepth 100000 in
set_option maxHeartbeats 2000000 in
theorem typeText_ok {f:Nat} {r:List UInt8 × Nat} {c:Cx} {w:World} {n:Nat} {s:Sx.St} (hr:Bg.ty c.full f [] n=some r) (h:RD c w n s):
  Calls Tryz.prog 95 #[.pointer (some ⟨c.rb,0,none⟩)] w (Ok c w (.string (bs r.1)) r.2 s):=by
 have HH:=hide h
 have HR:=hide hr
 clear h hr
 go_enter Tryz.func95,Tryz.ntmps95
 go_wp2
 go_loopw [3] (fun t wr=>tyJ c w s r t wr) (fun _ wr=>c.full.length - nextOf c wr)
 case atStart=>exact ⟨f,[],n,_,rfl,rfl,by decide,HR.out,HH.out,Kp.refl _ _⟩
 case round=>
  obtain ⟨f2,acc,n2,ba,rfl,HBA,hb,HP,HD,HK⟩:=hrel
  have hsz:ba.size=acc.length:=by rw [HBA.out,Lib.size_eq,bs_list]
  match f2,HP with
  |0,HP=>cases HP.out
  |f2+1,HP=>
  rcases oif HP.out with ⟨ht,hp⟩|⟨ht,hp⟩
  ·rcases oif hp with ⟨_,hp⟩|⟨h3,hp⟩
   ·cases hp
   have hlt:n2<c.full.length:=by
    rcases ht with e|e<;> exact txt_lt e (by decide)
   have hb3:((ba.size:Int) == 3)=false:=by rw [hsz];simp;omega
   have c1:=HD.out.c1
   have f1:=HD.out.fz 1
   have hm:=HD.out.hm
   have hl:ba.size+1≤3:=by omega
   have fin:Hid (∀ (y:List UInt8) (b:UInt8) (l:List UInt8) (k:Nat),Sx.txt (c.full.drop n2)=y→y=b::l→tyJ c w s r (.string (ba++⟨#[b]⟩)) ((wr.drewN k).setCell ⟨c.rb,1,none⟩ (.int .i64 ((n2:Int)+1)))∧c.full.length - nextOf c ((wr.drewN k).setCell ⟨c.rb,1,none⟩ (.int .i64 ((n2:Int)+1)))<c.full.length - nextOf c wr):=fun y b l k e1 e2=>by
    have hd9:=(HD.out.drewN k).step hlt
    refine ⟨⟨f2,acc++[b],n2+1,_,rfl,by show _=_;rw [HBA.out,bs_snoc],?_,?_,hd9,Kp.rb (HK.out.drewN _) _ _⟩,?_⟩
    ·rw [ByteArray.size_append]
     exact hl
    ·show _=_
     rw [←hp,e1,e2]
     rfl
    ·rw [hd9.nx,HD.out.nx]
     omega
   clear hp h3 hl
   by_cases hs:Sx.txt (c.full.drop n2)=Sx.wSend
   ·have hex:(⟨#[115,101,110,100]⟩:ByteArray).extract 0 1=⟨#[115]⟩:=by rfl
    have HS:=hide hs
    clear hs ht
    go_wp2_with fail
    refine (sees_yes ⟨#[115,101,110,100]⟩ HS.out HD.out).mono ?_
    rintro e w2 ⟨rfl,k1,rfl⟩
    go_wp2_with fail
    refine (text_is ⟨#[115,101,110,100]⟩ HS.out (HD.out.drewN _)).mono ?_
    rintro e w2 ⟨rfl,k2,rfl⟩
    go_wp2
    exact fin.out _ 115 _ _ HS.out rfl
   ·have hs2:=ht.resolve_left hs
    have hex:(⟨#[114,101,99,118]⟩:ByteArray).extract 0 1=⟨#[114]⟩:=by rfl
    have HS:=hide hs
    have HS2:=hide hs2
    clear hs ht hs2
    go_wp2_with fail
    refine (sees_no ⟨#[115,101,110,100]⟩ HS.out HD.out).mono ?_
    rintro e w2 ⟨rfl,k9,rfl⟩
    go_wp2_with fail
    refine (sees_yes ⟨#[114,101,99,118]⟩ HS2.out (HD.out.drewN _)).mono ?_
    rintro e w2 ⟨rfl,k1,rfl⟩
    go_wp2_with fail
    refine (text_is ⟨#[114,101,99,118]⟩ HS2.out (HD.out.drewN _)).mono ?_
    rintro e w2 ⟨rfl,k2,rfl⟩
    go_wp2
    exact fin.out _ 114 _ _ HS2.out rfl
  ·obtain ⟨m,h1,h2⟩:=obind hp
   cases h2
   have HS:=hide (fun e=>ht (.inl e))
   have HS2:=hide (fun e=>ht (.inr e))
   have HM:=hide h1
   clear ht hp h1
   go_wp2_with fail
   refine (sees_no ⟨#[115,101,110,100]⟩ HS.out HD.out).mono ?_
   rintro e w2 ⟨rfl,k9,rfl⟩
   go_wp2_with fail
   refine (sees_no ⟨#[114,101,99,118]⟩ HS2.out (HD.out.drewN _)).mono ?_
   rintro e w2 ⟨rfl,k1,rfl⟩
   go_wp2_with fail
   refine (skip_ok ⟨#[105,110,116]⟩ HM.out (HD.out.drewN _)).mono ?_
   rintro e w3 ⟨rfl,hd3,hk3⟩
   have HD3:=hide hd3
   have HK3:=hide hk3
   clear hd3 hk3
   go_wp2
   go_ret
   exact ⟨by rw [HBA.out,bs_snoc];rfl,HD3.out,(HK.out.drewN _).trans HK3.out⟩
theorem doOf_none (x:List UInt8) (h:x ∉ Sx.dos):Sx.doOf x=0:=by
 have h1:Sx.dos.idxOf x=Sx.dos.length:=List.idxOf_eq_length h
 unfold Sx.doOf
 rw [h1]
 rfl
theorem ret_int {k:IntKind} {a b:Int} (h:a=b):Ending.returned (.int k a)= .returned (.int k b):=by rw [h]
set_option maxRecDepth 100000 in
set_option maxHeartbeats 1000000 in
theorem doOf_any (x:ByteArray) (w:World):
  Calls Tryz.prog 145 #[.string x] w fun e w'=>e= .returned (.int .i64 (Sx.doOf x.data.toList))∧w'=w:=by
 rw [←Lib.toList_data]
 go_enter Tryz.func145,Tryz.ntmps145
 go_wp2
 all_goals
  go_ret
  refine ⟨ret_int ?_,rfl⟩
  first
  |(simp_all [Sx.doOf,Sx.dos,List.idxOf_cons];done)
  |(rw [doOf_none _ (by simp_all [Sx.dos])];rfl)
set_option maxRecDepth 100000 in
set_option maxHeartbeats 2000000 in
theorem bracketed_ok {α:Type} (F:FuncId) (caps:Array Value) (hF: ∀ w,(callFunc F caps).run Tryz.prog w= .ok (.enter F caps) w) (c:Cx) (S:List Nat) (hS:c.rb ∈ S) (I:World→α→Prop) (hI: ∀ w w' a,I w a→Kp [c.rb] w w'→I w' a)
  (one:α→Nat→Sx.St→Option (α × Nat × Sx.St)) (w:World) (hC: ∀ w1 a n s a' n' s',I w1 a→RD c w1 n s→Kp S w w1→one a n s=some (a',n',s')→Calls Tryz.prog F caps w1 fun e w2=>e= .returned (.tuple #[])∧I w2 a'∧RD c w2 n' s'∧Kp S w w2)
  {a:α} {n:Nat} {s:Sx.St} {r:α × Nat × Sx.St} (hi:I w a) (h:RD c w n s) (hr:Bg.br one c.full a n s=some r):
  Calls Tryz.prog 93 #[.pointer (some ⟨c.rb,0,none⟩),.func (.func F) #[] caps] w fun e w'=>e= .returned (.tuple #[])∧I w' r.1∧RD c w' r.2.1 r.2.2∧Kp S w w':=by
 obtain ⟨n1,h1,hr⟩:=obind hr
 rcases oif hr with ⟨_,hr⟩|⟨h41,hr⟩
 ·cases hr
 obtain ⟨⟨a2,n2,s2⟩,h2,hr⟩:=obind hr
 obtain ⟨⟨a3,n3,s3⟩,h3,hr⟩:=obind hr
 obtain ⟨m,h4,hr⟩:=obind hr
 cases hr
 have HH:=hide h
 have HI:=hide hI
 have HC:=hide hC
 have HI0:=hide hi
 have H1:=hide h1
 have H2:=hide h2
 have H3:=hide h3
 have H4:=hide h4
 have H41:=hide h41
 have HSub:Hid (∀ a b,Kp [c.rb] a b→Kp S a b):=fun a b h=>h.mono (by simpa using hS)
 clear h hI hC hi hS h1 h2 h3 h4 h41
 go_enter Tryz.func93,Tryz.ntmps93
 go_wp2_with fail
 refine (skip_ok ⟨#[40]⟩ H1.out HH.out).mono ?_
 rintro e w1 ⟨rfl,hd1,hk1⟩
 have HD1:=hide hd1
 have HK1:=hide hk1
 have HI1:=hide (HI.out _ _ _ HI0.out hk1)
 clear hd1 hk1
 go_wp2_with fail
 refine (sees_no ⟨#[41]⟩ H41.out HD1.out).mono ?_
 rintro e w2 ⟨rfl,k1,rfl⟩
 go_wp2_with fail
 refine (HC.out _ a n1 s a2 n2 s2 (HI.out _ _ _ HI1.out ((Kp.refl _ _).drewN _)) (HD1.out.drewN _) (HSub.out _ _ (HK1.out.drewN _)) H2.out).mono ?_
 rintro e w3 ⟨rfl,hi3,hd3,hk3⟩
 have HI3:=hide hi3
 have HD3:=hide hd3
 have HK3:=hide hk3
 clear hi3 hd3 hk3
 go_wp2
 go_loopw [4] (fun q wr=> ∃ (j m n4:Nat) (a4:α) (s4:Sx.St),q= .int .i64 m∧m≤6∧Hid (Bg.brL one c.full j m a4 n4 s4=some (a3,n3,s3))∧Hid (RD c wr n4 s4)∧Hid (I wr a4)∧Hid (Kp S w wr)) (fun q _=>7 - (intOf q).toNat)
 case atStart=>exact ⟨7,1,n2,a2,s2,rfl,by omega,H3.out,HD3.out,HI3.out,HK3.out⟩
 case round=>
  obtain ⟨j,m,n4,a4,s4,rfl,hm6,HP,HD4,HI4,HK4⟩:=hrel
  match j,HP with
  |0,HP=>cases HP.out
  |j+1,HP=>
  rcases oif HP.out with ⟨ht,hp⟩|⟨ht,hp⟩
  ·rcases oif hp with ⟨_,hp⟩|⟨h6,hp⟩
   ·cases hp
   obtain ⟨⟨a5,n5,s5⟩,h5,hp⟩:=obind hp
   have HT:=hide ht
   have H5:=hide h5
   have HP5:=hide hp
   have HSK:Hid (Bg.skp [44] c.full n4=some (n4+1)):=if_pos ht
   have d6:((m:Int) == 6)=false:=by simp;omega
   have hl6:m<6:=by omega
   clear ht hp h5 h6
   go_wp2_with fail
   refine (sees_yes ⟨#[44]⟩ HT.out HD4.out).mono ?_
   rintro e w2 ⟨rfl,k2,rfl⟩
   go_wp2_with fail
   refine (skip_ok ⟨#[44]⟩ HSK.out (HD4.out.drewN _)).mono ?_
   rintro e w5 ⟨rfl,hd5,hk5⟩
   have HD5:=hide hd5
   have HK5:=hide ((HK4.out.drewN k2).trans (HSub.out _ _ hk5))
   have HI5:=hide (HI.out _ _ _ (HI.out _ _ _ HI4.out ((Kp.refl _ _).drewN _)) hk5)
   clear hd5 hk5
   go_wp2_with fail
   refine (HC.out _ a4 _ s4 a5 n5 s5 HI5.out HD5.out HK5.out H5.out).mono ?_
   rintro e w6 ⟨rfl,hi6,hd6,hk6⟩
   have HI6:=hide hi6
   have HD6:=hide hd6
   have HK6:=hide hk6
   clear hi6 hd6 hk6
   go_wp2
   refine ⟨⟨j,m+1,n5,a5,s5,by go_num,by omega,HP5.out,HD6.out,HI6.out,HK6.out⟩,?_⟩
   simp [intOf]
   omega
  ·cases hp
   have HT:=hide ht
   clear ht
   go_wp2_with fail
   refine (sees_no ⟨#[44]⟩ HT.out HD4.out).mono ?_
   rintro e w2 ⟨rfl,k2,rfl⟩
   go_wp2_with fail
   refine (skip_ok ⟨#[41]⟩ H4.out (HD4.out.drewN _)).mono ?_
   rintro e w5 ⟨rfl,hd5,hk5⟩
   have HD5:=hide hd5
   have HK5:=hide ((HK4.out.drewN k2).trans (HSub.out _ _ hk5))
   have HI5:=hide (HI.out _ _ _ (HI.out _ _ _ HI4.out ((Kp.refl _ _).drewN _)) hk5)
   clear hd5 hk5
   go_wp2
   go_end0
   exact ⟨rfl,HI5.out,HD5.out,HK5.out⟩
end Go.Proofs.YtcdcoiobpbdmpaaGreatDoor
namespace Go.Proofs.YtcdcoiobpbdmpaaGreatDoor
open Go.RowKit
namespace Bg
structure Fl where
 A:List UInt8:=[]
 B:List UInt8:=[]
 T:List UInt8:=[]
 N:Int:=0
 E:List (Int × List UInt8 × Int):=[]
def arg (T:List Tk.Tok) (E:List (Int × List UInt8 × Int)) (n:Nat) (s:Sx.St):Option (List (Int × List UInt8 × Int) × Nat × Sx.St):=(ex T n).bind fun r=>some (E++[r.1],r.2,s.part)
def plain (T:List Tk.Tok) (D:Int) (n:Nat) (s:Sx.St):Option (Fl × Nat × Sx.St):=
 if D=3 then (ex T n).bind fun r=>some ({ E:=[r.1] },r.2,s.part) else
 (tok 2 T n).bind fun a=>
  if D=4 then (tok 2 T a.2).bind fun b=>(ty T 9 [] b.2).bind fun y=>(tok 3 T y.2).bind fun k=>some ({ A:=a.1.text,B:=b.1.text,T:=y.1,N:=k.1.n },k.2,s)
  else if D=6 then (ex T a.2).bind fun r=>some ({ A:=a.1.text,E:=[r.1] },r.2,s.part)
  else if D=7∨D=9 then some ({ A:=a.1.text },a.2,s)
  else if D=10 then (br (arg T) T [] a.2 s).bind fun r=>some ({ A:=a.1.text,E:=r.1 },r.2.1,r.2.2)
  else none
def tr (x:Int × List UInt8 × Int):Sx.Tr:=Sx.tE x.1 x.2.1 x.2.2 []
end Bg
structure SB (w:World) (b:Nat) (vs:List Value):Prop where
 cs: ∀ (j:Nat) v,vs[j]? =some v→w.cell? ⟨b,j,none⟩=some v
 fz: ∀ o,w.frozen? ⟨b,o,none⟩=false
 lt:b<w.heap.size
theorem SB.keep {w w':World} {S:List Nat} {b:Nat} {vs:List Value} (h:SB w b vs) (k:Kp S w w') (hn:b ∉ S):SB w' b vs:=
 ⟨fun j v hv=>k.some (h.cs j v hv) hn,fun o=>(k.frozen (p:=⟨b,o,none⟩) h.lt hn).trans (h.fz o),Nat.lt_of_lt_of_le h.lt k.size⟩
theorem SB.set {w:World} {b j:Nat} {vs:List Value} {u:Value} (h:SB w b vs) (hu:vs[j]? =some u) (v:Value):SB (w.setCell ⟨b,j,none⟩ v) b (vs.set j v):=by
 refine ⟨fun i x hx=> ?_,fun o=>by simpa using h.fz o,by simpa [World.setCell] using h.lt⟩
 by_cases hi:j=i
 ·subst hi
  have hl:=(List.getElem?_eq_some_iff.1 hu).1
  rw [List.getElem?_set_self hl] at hx
  cases hx
  rw [World.cell?_setCell_same (h:=h.cs _ _ hu)]
 ·rw [List.getElem?_set_ne hi] at hx
  exact (cell_off _ _ _ _ _ hi).trans (h.cs _ _ hx)
def Cx.apart (c:Cx) (sb:Nat):Prop:=c.rb ≠ sb∧(c.full ≠ []→c.tb ≠ sb)
theorem RD.set_apart {c:Cx} {w:World} {n:Nat} {s:Sx.St} {sb:Nat} (h:RD c w n s) (hA:c.apart sb) (o:Nat) (v:Value):RD c (w.setCell ⟨sb,o,none⟩ v) n s:=
 h.keep (S:=[sb]) (Kp.rb (Kp.refl _ _) _ _) (by simpa using hA.1) (fun hne=>by simpa using hA.2 hne)
structure PB (c:Cx) (w0 w:World) (n:Nat) (s:Sx.St) (sb:Nat) (vs:List Value):Prop where
 rd:RD c w n s
 m9:SB w sb vs
 b0:w.cell? ⟨w0.heap.size,0,none⟩=some (.pointer (some ⟨c.rb,0,none⟩))
 b1:w.cell? ⟨w0.heap.size+1,0,none⟩=some (.pointer (some ⟨sb,0,none⟩))
 kp:Kp [sb,c.rb] w0 w
 rlt:c.rb<w0.heap.size
 slt:sb<w0.heap.size
 ap:c.apart sb
section
variable {c:Cx} {w0 w w1:World} {n n1:Nat} {s s1:Sx.St} {sb:Nat} {vs:List Value}
theorem PB.start (h:RD c w n s) (hA:c.apart sb) (hS:SB w sb vs) (t1 t2:TypeId):
  PB c w ((w.alloc (.cells #[.pointer (some ⟨c.rb,0,none⟩)] t1)).alloc (.cells #[.pointer (some ⟨sb,0,none⟩)] t2)) n s sb vs:=
 ⟨(h.alloc _).alloc _,hS.keep (S:=[]) (((Kp.refl _ _).alloc _).alloc _) (by simp),by simp [go_sem],by simp [go_sem],((Kp.refl _ _).alloc _).alloc _,h.rlt,hS.lt,hA⟩
theorem PB.go (h:PB c w0 w n s sb vs) (hd:RD c w1 n1 s1) (hk:Kp [c.rb] w w1):PB c w0 w1 n1 s1 sb vs:=
 ⟨hd,h.m9.keep hk (by have:=h.ap.1;simp;omega),hk.some h.b0 (by have:=h.rlt;simp;omega),hk.some h.b1 (by have:=h.rlt;simp;omega),h.kp.trans (hk.mono (by simp)),h.rlt,h.slt,h.ap⟩
theorem PB.drew (h:PB c w0 w n s sb vs):PB c w0 w.drew n s sb vs:=h.go h.rd.drew (Kp.refl _ _).drew
theorem PB.set {j:Nat} {u:Value} (h:PB c w0 w n s sb vs) (hu:vs[j]? =some u) (v:Value):PB c w0 (w.setCell ⟨sb,j,none⟩ v) n s sb (vs.set j v):=by
 have hl:=h.slt
 exact ⟨h.rd.set_apart h.ap _ _,h.m9.set hu v,(World.cell?_setCell_far _ _ _ _ (by show sb ≠ w0.heap.size;omega)).trans h.b0,(World.cell?_setCell_far _ _ _ _ (by show sb ≠ w0.heap.size+1;omega)).trans h.b1,Kp.rb h.kp _ _,h.rlt,h.slt,h.ap⟩
theorem step_cex {P:Program} {ops:Array Oper} {o:Oper} {a:Act} {w:World} {K:Act→World→Prop} {Q:Exit→Act→World→Prop} {E:Prop} (hgd:o.guard=none) (f:FuncId) {args:Array Value} (hrun:(execOp a.eval o).run P w= .ok (.enter f args) w)
  {v:Value} {R:World→Prop} (hC:Calls P f args w fun e w'=>e= .returned v∧R w') (hK: ∀ w',R w'→K (a.put o.dst v) w'):if Region.wanted o (yielded ops a.tmps)=true then Oper.wp P o a w K Q else E:=by
 have hw:Region.wanted o (yielded ops a.tmps)=true:=by simp [Region.wanted,hgd]
 rw [if_pos hw]
 unfold Oper.wp
 rw [hrun]
 show Calls P f _ w _
 refine hC.mono ?_
 rintro e w' ⟨rfl,h1⟩
 exact hK w' h1
theorem step_ex {P:Program} {ops:Array Oper} {o:Oper} {a:Act} {K:Act→World→Prop} {Q:Exit→Act→World→Prop} {E:Prop} (hgd:o.guard=none) (f:FuncId) (hrun:(execOp a.eval o).run P w= .ok (.enter f #[.pointer (some ⟨c.rb,0,none⟩)]) w) (h:PB c w0 w n s sb vs)
  {R:World→Value→Prop} (hC:Calls P f #[.pointer (some ⟨c.rb,0,none⟩)] w fun e w'=> ∃ v,R w' v∧Ok c w v n1 s1 e w') (hK: ∀ v w',PB c w0 w' n1 s1 sb vs→R w' v→K (a.put o.dst v) w'):if Region.wanted o (yielded ops a.tmps)=true then Oper.wp P o a w K Q else E:=by
 have hw:Region.wanted o (yielded ops a.tmps)=true:=by simp [Region.wanted,hgd]
 rw [if_pos hw]
 unfold Oper.wp
 rw [hrun]
 show Calls P f _ w _
 refine hC.mono ?_
 rintro e w' ⟨v,hr,rfl,h1,h2⟩
 exact hK v w' (h.go h1 h2) hr
theorem step_ok {P:Program} {ops:Array Oper} {o:Oper} {a:Act} {K:Act→World→Prop} {Q:Exit→Act→World→Prop} {E:Prop} (hgd:o.guard=none) (f:FuncId) (hrun:(execOp a.eval o).run P w= .ok (.enter f #[.pointer (some ⟨c.rb,0,none⟩)]) w) (h:PB c w0 w n s sb vs)
  {v:Value} (hC:Calls P f #[.pointer (some ⟨c.rb,0,none⟩)] w (Ok c w v n1 s1)) (hK: ∀ w',PB c w0 w' n1 s1 sb vs→K (a.put o.dst v) w'):if Region.wanted o (yielded ops a.tmps)=true then Oper.wp P o a w K Q else E:=
 step_ex hgd f hrun h (R:=fun _ u=>u=v) (hC.mono fun _ _ h=>⟨v,rfl,h⟩) (fun _ w' h1 h2=>by subst h2;exact hK w' h1)
end
def st0 (D at':Int):List Value:=[.int .i64 D,.int .i64 at',.string ⟨#[]⟩,.string ⟨#[]⟩,.string ⟨#[]⟩,.int .i64 0,.slice none 0 0,.slice none 0 0,.slice none 0 0]
def st1 (D at':Int) (x:Bg.Fl) (uE:Value):List Value:=[.int .i64 D,.int .i64 at',.string (bs x.A),.string (bs x.B),.string (bs x.T),.int .i64 x.N,uE,.slice none 0 0,.slice none 0 0]
def PlC (D:Int):Prop:= ∀ (c:Cx) (w:World) (n:Nat) (s:Sx.St) (sb:Nat) (at':Int) (x:Bg.Fl) (m:Nat) (s':Sx.St),RD c w n s→c.apart sb→SB w sb (st0 D at')→Bg.plain c.full D n s=some (x,m,s')→
 Calls Tryz.prog 147 #[.pointer (some ⟨c.rb,0,none⟩),.pointer (some ⟨sb,0,none⟩)] w fun e w'=>e= .returned (.tuple #[])∧RD c w' m s'∧Kp [sb,c.rb] w w'∧ ∃ uE,SB w' sb (st1 D at' x uE)∧EL w' (fun b=>w.heap.size≤b) 2 (x.E.map Bg.tr) uE
theorem PB.fin {c:Cx} {w0 w:World} {n:Nat} {s:Sx.St} {sb:Nat} {D at':Int} {x:Bg.Fl} {uE:Value} (h:PB c w0 w n s sb (st1 D at' x uE)) (hE:EL w (fun b=>w0.heap.size≤b) 2 (x.E.map Bg.tr) uE):
  (Ending.returned (.tuple #[]):Ending)= .returned (.tuple #[])∧RD c w n s∧Kp [sb,c.rb] w0 w∧ ∃ uE,SB w sb (st1 D at' x uE)∧EL w (fun b=>w0.heap.size≤b) 2 (x.E.map Bg.tr) uE:=⟨rfl,h.rd,h.kp,uE,h.m9,hE⟩
set_option maxRecDepth 100000 in
set_option maxHeartbeats 2000000 in
theorem plain_7 (D:Int) (hD:D=7∨D=9):PlC D:=by
 intro c w n s sb at' x m s' h hA hS hx
 have d3:(D == 3)=false:=by rcases hD with rfl|rfl<;> rfl
 have dd: ∀ k,k ∈ ([1,2,3,6,4,5,10]:List Int)→(D == k)=false:=by rcases hD with rfl|rfl<;> decide
 unfold Bg.plain at hx
 rw [if_neg (by simpa using d3)] at hx
 obtain ⟨⟨t,n1⟩,h1,hx⟩:=obind hx
 rw [if_neg (by simpa using dd 4 (by decide)),if_neg (by simpa using dd 6 (by decide)),if_pos hD] at hx
 cases hx
 have HT:=hide h1
 have HP:=hide (PB.start h hA hS 106 207)
 have l1:=HP.out.slt
 have l2:=HP.out.rlt
 have hne:=hA.1
 have hne':sb ≠ c.rb:=fun e=>hne e.symm
 have q1: ¬ sb=w.heap.size:=by omega
 have q2: ¬ sb=w.heap.size+1:=by omega
 have e1:=dd 1 (by decide)
 have e2:=dd 2 (by decide)
 have e6:=dd 6 (by decide)
 have e4:=dd 4 (by decide)
 have e5:=dd 5 (by decide)
 have e10:=dd 10 (by decide)
 have k0:=hS.cs 0 _ rfl
 have k2:=hS.cs 2 _ rfl
 have kf:=hS.fz
 clear h hA hS h1 dd hD
 go_enter Tryz.func147,Tryz.ntmps147
 go_wp2
 go_region_held_law (fun w'=>w'.cell? ⟨w.heap.size,0,none⟩=some (.pointer (some ⟨c.rb,0,none⟩))∧w'.cell? ⟨w.heap.size+1,0,none⟩=some (.pointer (some ⟨sb,0,none⟩))) ((first|exact ⟨by assumption,by assumption⟩|go_keep))
  ((refine step_ok rfl 92 (by go_simp) HP.out.drew (name_ok HT.out HP.out.drew.rd) ?_;intro w1 hP;have b0:=hP.b0;have b1:=hP.b1;have c0:=hP.m9.cs 0 _ rfl;have c2:=hP.m9.cs 2 _ rfl;have cf:=hP.m9.fz;have HP1:=hide (hP.set (j:=2) rfl (.string (bs t.text)));clear hP))
 go_wp2
 go_end0
 exact PB.fin (x:={ A:=t.text }) HP1.out (EL.nil _ _ _ _ |>.more 1)
end Go.Proofs.YtcdcoiobpbdmpaaGreatDoor
namespace Go.Proofs.YtcdcoiobpbdmpaaGreatDoor
open Go.RowKit
theorem PB.near {c:Cx} {w0 w:World} {n:Nat} {s:Sx.St} {sb:Nat} {vs:List Value} (h:PB c w0 w n s sb vs):sb ≠ c.rb∧c.rb ≠ sb∧(¬ sb=w0.heap.size)∧(¬ sb=w0.heap.size+1)∧sb<w0.heap.size∧c.rb<w0.heap.size:=by
 have h1:=h.slt
 have h2:=h.ap.1
 exact ⟨fun e=>h2 e.symm,h2,by omega,by omega,h1,h.rlt⟩
theorem PB.far {c:Cx} {w0 w:World} {n n1:Nat} {s s1:Sx.St} {sb j:Nat} {vs vs1:List Value} {w2:World} (h:PB c w0 w n s sb vs) (_:PB c w0 w2 n1 s1 sb vs1) {E:List Sx.Tr} {v:Value} (hE:EL w2 (fun b=>w.heap.size≤b) 2 E v) (u:Value):EL (w2.setCell ⟨sb,j,none⟩ u) (fun b=>w0.heap.size≤b) 2 E v:=
 (hE.base (fun b _ hb=>Nat.le_trans h.kp.size hb)).keep (S:=[sb]) (Kp.rb (Kp.refl _ _) _ _) (by have:=h.slt;simpa using this)
set_option maxRecDepth 100000 in
set_option maxHeartbeats 2000000 in
theorem plain_3:PlC 3:=by
 intro c w n s sb at' x m s' h hA hS hx
 obtain ⟨⟨y,n1⟩,h1,hx⟩:=obind hx
 cases hx
 have H1:=hide h1
 have HP0:=hide (PB.start h hA hS 106 207)
 obtain ⟨q1,q2,q3,q4,q5,q6⟩:=HP0.out.near
 have k0:=hS.cs 0 _ rfl
 have k6:=hS.cs 6 _ rfl
 have kf:=hS.fz
 clear h hA hS
 go_enter Tryz.func147,Tryz.ntmps147
 go_wp2
 go_region_held_law (fun w'=>w'.cell? ⟨w.heap.size,0,none⟩=some (.pointer (some ⟨c.rb,0,none⟩))∧w'.cell? ⟨w.heap.size+1,0,none⟩=some (.pointer (some ⟨sb,0,none⟩))) ((first|exact ⟨by assumption,by assumption⟩|go_keep))
  ((refine step_ex rfl 164 (by go_simp) HP0.out.drew (exprs_ok H1.out HP0.out.drew.rd) ?_;intro v w1 hP hv;obtain ⟨hv,g,rfl⟩:=hv;have HV:=hide hv;clear hv;have b0:=hP.b0;have b1:=hP.b1;have c0:=hP.m9.cs 0 _ rfl;have c6:=hP.m9.cs 6 _ rfl;have cf:=hP.m9.fz;have HR1:=hide hP;have HP1:=hide (hP.set (j:=6) rfl (.slice (some ⟨g,0,none⟩) 1 1));clear hP))
 go_wp2
 go_end0
 exact PB.fin (x:={ E:=[y] }) HP1.out (HP0.out.drew.far HR1.out HV.out _)
end Go.Proofs.YtcdcoiobpbdmpaaGreatDoor
namespace Go.Proofs.YtcdcoiobpbdmpaaGreatDoor
open Go.RowKit
namespace Bg
def nestA (T:List Tk.Tok) (D:Int) (n:Nat) (s:Sx.St):Option (Fl × Nat × Sx.St):=
 if D=11∨D=12 then (tok 2 T n).bind fun a=>(skp Sx.wFrom T a.2).bind fun n=>(tok 2 T n).bind fun b=>some ({ A:=a.1.text,B:=b.1.text },b.2,s)
 else if D=13∨D=14 then (ex T n).bind fun r=>some ({ E:=[r.1] },r.2,s.part) else none
def nest (T:List Tk.Tok) (blk:Nat→Sx.St→Option (List Sx.Tr × Nat × Sx.St)) (D:Int) (n:Nat) (s:Sx.St):Option (Fl × List Sx.Tr × Nat × Sx.St):=
 (nestA T D n s).bind fun h=>(blk h.2.1 h.2.2).bind fun b=>if Sx.txt (T.drop b.2.1)=Sx.wElse then none else some (h.1,b.1,b.2.1,b.2.2)
def stmt (K:List Nat) (e:Nat) (T:List Tk.Tok) (blk:Nat→Sx.St→Option (List Sx.Tr × Nat × Sx.St)) (n:Nat) (s:Sx.St):Option (Sx.Tr × Nat × Sx.St):=
 if s.stmts<300∧Sx.doOf (Sx.txt (T.drop n)) ∈ K then
  if 11≤Sx.doOf (Sx.txt (T.drop n)) then (nest T blk (Sx.doOf (Sx.txt (T.drop n))) (n+1) s.stmt).bind fun r=>some (Sx.tS (Sx.doOf (Sx.txt (T.drop n))) (Sx.place e (T.drop n)) r.1.A r.1.B [] 0 (r.1.E.map tr) r.2.1 [],r.2.2.1,r.2.2.2)
  else (plain T (Sx.doOf (Sx.txt (T.drop n))) (n+1) s.stmt).bind fun r=>(skp [59] T r.2.1).bind fun m=>some (Sx.tS (Sx.doOf (Sx.txt (T.drop n))) (Sx.place e (T.drop n)) r.1.A r.1.B r.1.T r.1.N (r.1.E.map tr) [] [],m,r.2.2)
 else none
def sts (K:List Nat) (e:Nat) (T:List Tk.Tok) (blk:Nat→Sx.St→Option (List Sx.Tr × Nat × Sx.St)):Nat→List Sx.Tr→Nat→Sx.St→Option (List Sx.Tr × Nat × Sx.St)
 |0,_,_,_=>none
 |k+1,acc,n,s=>if Sx.txt (T.drop n)=[125] then some (acc,n,s) else if 300≤acc.length then none else (stmt K e T blk n s).bind fun r=>sts K e T blk k (acc++[r.1]) r.2.1 r.2.2
def block (K:List Nat) (e:Nat) (T:List Tk.Tok):Nat→Nat→Sx.St→Option (List Sx.Tr × Nat × Sx.St)
 |0,_,_=>none
 |f+1,n,s=>if s.dep<8 then (skp [123] T n).bind fun n=>(sts K e T (block K e T f) 301 [] n s.up).bind fun r=>(skp [125] T r.2.1).bind fun m=>if 0<r.2.2.dep then some (r.1,m,r.2.2.down) else none else none
end Bg
def BlC (K:List Nat) (f:Nat):Prop:= ∀ (c:Cx) (w:World) (n:Nat) (s:Sx.St) (l:List Sx.Tr) (m:Nat) (s':Sx.St),RD c w n s→Bg.block K c.e c.full f n s=some (l,m,s')→
 Calls Tryz.prog 96 #[.pointer (some ⟨c.rb,0,none⟩)] w fun e w'=> ∃ v,(∃ k,SL w' (fun b=>w.heap.size≤b) k l v)∧Ok c w v m s' e w'
def st2 (D at':Int) (x:Bg.Fl) (uE uB:Value):List Value:=[.int .i64 D,.int .i64 at',.string (bs x.A),.string (bs x.B),.string ⟨#[]⟩,.int .i64 0,uE,uB,.slice none 0 0]
def NsC (K:List Nat) (f:Nat) (D:Int):Prop:= ∀ (c:Cx) (w:World) (n:Nat) (s:Sx.St) (sb:Nat) (at':Int) (x:Bg.Fl) (l:List Sx.Tr) (m:Nat) (s':Sx.St),RD c w n s→c.apart sb→SB w sb (st0 D at')→Bg.nest c.full (Bg.block K c.e c.full f) D n s=some (x,l,m,s')→
 Calls Tryz.prog 146 #[.pointer (some ⟨c.rb,0,none⟩),.pointer (some ⟨sb,0,none⟩)] w fun e w'=>e= .returned (.tuple #[])∧RD c w' m s'∧Kp [sb,c.rb] w w'∧ ∃ uE uB k,SB w' sb (st2 D at' x uE uB)∧EL w' (fun b=>w.heap.size≤b) 2 (x.E.map Bg.tr) uE∧SL w' (fun b=>w.heap.size≤b) k l uB
structure NB (c:Cx) (w0 w:World) (n:Nat) (s:Sx.St) (sb:Nat) (vs:List Value):Prop where
 rd:RD c w n s
 m9:SB w sb vs
 kp:Kp [sb,c.rb] w0 w
 slt:sb<w0.heap.size
 ap:c.apart sb
section
variable {c:Cx} {w0 w w1:World} {n n1:Nat} {s s1:Sx.St} {sb:Nat} {vs:List Value}
theorem NB.go (h:NB c w0 w n s sb vs) (hd:RD c w1 n1 s1) (hk:Kp [c.rb] w w1):NB c w0 w1 n1 s1 sb vs:=
 ⟨hd,h.m9.keep hk (by have:=h.ap.1;simp;omega),h.kp.trans (hk.mono (by simp)),h.slt,h.ap⟩
theorem NB.set {j:Nat} {u:Value} (h:NB c w0 w n s sb vs) (hu:vs[j]? =some u) (v:Value):NB c w0 (w.setCell ⟨sb,j,none⟩ v) n s sb (vs.set j v):=
 ⟨h.rd.set_apart h.ap _ _,h.m9.set hu v,Kp.rb h.kp _ _,h.slt,h.ap⟩
theorem NB.farS {j k:Nat} (h:NB c w0 w n s sb vs) {E:List Sx.Tr} {v:Value} (hE:SL w1 (fun b=>w.heap.size≤b) k E v) (u:Value):SL (w1.setCell ⟨sb,j,none⟩ u) (fun b=>w0.heap.size≤b) k E v:=
 (hE.base (fun b _ hb=>Nat.le_trans h.kp.size hb)).keep (S:=[sb]) (Kp.rb (Kp.refl _ _) _ _) (by have:=h.slt;simpa using this)
end
set_option maxRecDepth 100000 in
set_option maxHeartbeats 2000000 in
theorem nest_ab (K:List Nat) (f:Nat) (D:Int) (hD:D=11∨D=12) (hB:BlC K f):NsC K f D:=by
 intro c w n s sb at' x l m s' h hA hS hx
 obtain ⟨⟨z,n4,s4⟩,h0,hx⟩:=obind hx
 obtain ⟨⟨l',m',t'⟩,h5,hx⟩:=obind hx
 rcases oif hx with ⟨_,hx⟩|⟨hel,hx⟩
 ·cases hx
 cases hx
 rcases oif h0 with ⟨_,h0⟩|⟨hn,_⟩
 rotate_left
 ·exact absurd hD hn
 obtain ⟨⟨t,n1⟩,h1,h0⟩:=obind h0
 obtain ⟨n2,h2,h0⟩:=obind h0
 obtain ⟨⟨u,n3⟩,h3,h0⟩:=obind h0
 cases h0
 have H1:=hide h1
 have H2:=hide h2
 have H3:=hide h3
 have H5:=hide h5
 have HEL:=hide hel
 have HBl:=hide hB
 have HP0:Hid (NB c w w n s sb (st0 D at')):=⟨h,hS,Kp.refl _ _,hS.lt,hA⟩
 have d0:(D == 11 || D == 12)=true:=by rcases hD with rfl|rfl<;> rfl
 have k0:=hS.cs 0 _ rfl
 have k2:=hS.cs 2 _ rfl
 have kf:=hS.fz
 clear h hA hS hB h1 h2 h3 h5 hel
 go_enter Tryz.func146,Tryz.ntmps146
 rcases hD with rfl|rfl
 all_goals
  go_wp2_with fail
  refine (name_ok H1.out HP0.out.rd).mono ?_
  rintro e w1 ⟨rfl,hd,hk⟩
  have hP:=HP0.out.go hd hk
  have c2:=hP.m9.cs 2 _ rfl
  have cf:=hP.m9.fz
  have HP1:=hide (hP.set (j:=2) rfl (.string (bs t.text)))
  clear hd hk hP
  go_wp2_with fail
  refine (skip_ok ⟨#[102,114,111,109]⟩ H2.out HP1.out.rd).mono ?_
  rintro e w2 ⟨rfl,hd,hk⟩
  have HP2:=hide (HP1.out.go hd hk)
  clear hd hk
  go_wp2_with fail
  refine (name_ok H3.out HP2.out.rd).mono ?_
  rintro e w3 ⟨rfl,hd,hk⟩
  have hP:=HP2.out.go hd hk
  have c3:=hP.m9.cs 3 _ rfl
  have cf3:=hP.m9.fz
  have HP3:=hide (hP.set (j:=3) rfl (.string (bs u.text)))
  clear hd hk hP
  go_wp2_with fail
  refine (HBl.out c _ _ _ _ _ _ HP3.out.rd H5.out).mono ?_
  rintro e w4 ⟨v,⟨k,hv⟩,rfl,hd,hk⟩
  have hP:=HP3.out.go hd hk
  have c7:=hP.m9.cs 7 _ rfl
  have cf4:=hP.m9.fz
  have c0:=hP.m9.cs 0 _ rfl
  obtain ⟨av,cap,rfl⟩:=hv.slice
  have HP4:=hide (hP.set (j:=7) rfl (.slice av l'.length cap))
  have HV:=hide hv
  clear hd hk hP hv
  try go_wp2_with fail
  try (refine (sees_no ⟨#[101,108,115,101]⟩ HEL.out HP4.out.rd).mono ?_;rintro e w5 ⟨rfl,k5,rfl⟩;have HP5:=hide (HP4.out.go (HP4.out.rd.drewN k5) ((Kp.refl _ _).drewN k5)))
  go_wp2
  go_end0
  first
  |exact ⟨rfl,HP5.out.rd,HP5.out.kp,_,_,k,HP5.out.m9,(EL.nil _ _ _ _).more 1,(HP3.out.farS HV.out _).keep ((Kp.refl [] _).drewN _) (by simp)⟩
  |exact ⟨rfl,HP4.out.rd,HP4.out.kp,_,_,k,HP4.out.m9,(EL.nil _ _ _ _).more 1,HP3.out.farS HV.out _⟩
end Go.Proofs.YtcdcoiobpbdmpaaGreatDoor
