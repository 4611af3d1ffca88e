import Derived.Test.YteeocekjekclbaaGreatDoorMad
namespace Go.Proofs.YteeocekjekclbaaGreatDoor
open Go.RowKit
structure LX (c:Cx) (w0 w:World) (v n:Nat) (s:Sx.St) (x:Int × List UInt8 × Int):Prop where
 v2:V2 w w0.heap.size v x
 rd:RD c w n s
 kp:Kp [c.rb] w0 w
 b:c.below w0.heap.size
 lt:w0.heap.size<v
theorem LX.drewN {c:Cx} {w0 w:World} {v n:Nat} {s:Sx.St} {x:Int × List UInt8 × Int} (h:LX c w0 w v n s x) (k:Nat):LX c w0 (w.drewN k) v n s x:=
 ⟨h.v2.keep ((Kp.refl [] _).drewN k) (by simp) (by simp),h.rd.drewN k,h.kp.drewN k,h.b,h.lt⟩
theorem LX.start {c:Cx} {w w0 w1:World} {n:Nat} {s:Sx.St} {x:Int × List UInt8 × Int} (hb:c.below w.heap.size) (h0:X4 w0 w.heap.size (.int .i64 0) (.string ⟨#[]⟩) (.int .i64 0) (.slice none 0 0)) (k0:Kp [c.rb] w w0) (hd:RD c w1 n s) (hk:Kp [c.rb] w0 w1) (t:TypeId):
  LX c w (w1.alloc (.cells #[.int .i64 x.1,.string (bs x.2.1),.int .i64 x.2.2,.slice none 0 0] t)) w1.heap.size n s x:=by
 have hl:=World.block_lt_of_cell? w0 ⟨w.heap.size,0,none⟩ h0.c0
 have hs:=hk.size
 simp only at hl
 exact ⟨⟨(h0.keep hk (by have:=hb.1;simp;omega)).keep ((Kp.refl [] _).alloc _) (by simp),X4.new _ _ _ _ _ _⟩,hd.alloc _,(k0.trans hk).alloc _,hb,by omega⟩
theorem LX.fin {c:Cx} {w0 w:World} {v n:Nat} {s:Sx.St} {x:Int × List UInt8 × Int} (h:LX c w0 w v n s x):Ok c w0 (lf x) n s (.returned (lf x)) ((((w.setCell ⟨w0.heap.size,0,none⟩ (.int .i64 x.1)).setCell ⟨w0.heap.size,1,none⟩ (.string (bs x.2.1))).setCell ⟨w0.heap.size,2,none⟩ (.int .i64 x.2.2)).setCell ⟨w0.heap.size,3,none⟩ (.slice none 0 0)):=
 ⟨rfl,h.rd.set4 h.b (Nat.le_refl _) _ _ _ _,h.kp.nb4 (Nat.le_refl _) _ _ _ _⟩
set_option maxRecDepth 100000 in
set_option maxHeartbeats 1000000 in
theorem product_ok {x:Int × List UInt8 × Int} {c:Cx} {w:World} {n m:Nat} {s:Sx.St} (hx:Bg.ex c.full n=some (x,m)) (h:RD c w n s):
  Calls Tryz.prog 182 #[.pointer (some ⟨c.rb,0,none⟩)] w (Ok c w (lf x) m s.part):=by
 have HX:=hide hx
 have HH:=hide h
 have HB:=hide h.lt
 obtain ⟨_,_,_,_,_,hq,_⟩:=ex_of hx
 have HQ:=hide (hq [42] (by decide))
 clear hx h hq
 go_enter Tryz.func182,Tryz.ntmps182
 go_wp2_with fail
 refine (unit_ok HX.out (by exact HH.out.alloc _)).mono ?_
 rintro e w1 ⟨rfl,hd1,hk1⟩
 have HS:=hide (LX.start (x:=x) HB.out (X4.new w _ _ _ _ 184) ((Kp.refl _ _).alloc _) hd1 hk1 184)
 clear hd1 hk1
 simp only [lf]
 go_wp2_with fail
 go_loopw [] (fun wr=>LX c w wr w1.heap.size m s.part x) (fun wr=>0)
 case atStart=>exact HS.out
 case round=>
  have hlt:=hrel.lt
  obtain ⟨x0,x1,x2,x3,xf⟩:=hrel.v2.x
  obtain ⟨y0,y1,y2,y3,yf⟩:=hrel.v2.z
  have HL:=hide hrel
  clear hrel
  go_wp2_with fail
  refine (sees_no ⟨#[42]⟩ HQ.out HL.out.rd).mono ?_
  rintro e w2 ⟨rfl,kk,rfl⟩
  go_wp2
  exact bodyPost_ret (v:=lf x) (by simp [results,Tryz.results182,go_sem,y0,y1,y2,y3,lf]) rfl (HL.out.drewN kk).fin
set_option maxRecDepth 100000 in
set_option maxHeartbeats 1000000 in
theorem sum_ok {x:Int × List UInt8 × Int} {c:Cx} {w:World} {n m:Nat} {s:Sx.St} (hx:Bg.ex c.full n=some (x,m)) (h:RD c w n s):
  Calls Tryz.prog 164 #[.pointer (some ⟨c.rb,0,none⟩)] w (Ok c w (lf x) m s.part):=by
 have HX:=hide hx
 have HH:=hide h
 have HB:=hide h.lt
 obtain ⟨_,_,_,_,_,hq,_⟩:=ex_of hx
 have HQ:=hide (hq [43] (by decide))
 have HQ':=hide (hq [45] (by decide))
 clear hx h hq
 go_enter Tryz.func164,Tryz.ntmps164
 go_wp2_with fail
 refine (product_ok HX.out (by exact HH.out.alloc _)).mono ?_
 rintro e w1 ⟨rfl,hd1,hk1⟩
 have HS:=hide (LX.start (x:=x) HB.out (X4.new w _ _ _ _ 184) ((Kp.refl _ _).alloc _) hd1 hk1 184)
 clear hd1 hk1
 simp only [lf]
 go_wp2_with fail
 go_loopw [] (fun wr=>LX c w wr w1.heap.size m s.part x) (fun wr=>0)
 case atStart=>exact HS.out
 case round=>
  have hlt:=hrel.lt
  obtain ⟨x0,x1,x2,x3,xf⟩:=hrel.v2.x
  obtain ⟨y0,y1,y2,y3,yf⟩:=hrel.v2.z
  have HL:=hide hrel
  clear hrel
  go_wp2_with fail
  refine (sees_no ⟨#[43]⟩ HQ.out HL.out.rd).mono ?_
  rintro e w2 ⟨rfl,kk,rfl⟩
  go_wp2_with fail
  refine (sees_no ⟨#[45]⟩ HQ'.out (HL.out.drewN _).rd).mono ?_
  rintro e w2 ⟨rfl,k2,rfl⟩
  go_wp2
  exact bodyPost_ret (v:=lf x) (by simp [results,Tryz.results164,go_sem,y0,y1,y2,y3,lf]) rfl (HL.out.drewN (kk+k2)).fin
set_option maxRecDepth 100000 in
set_option maxHeartbeats 1000000 in
theorem expr_ok {x:Int × List UInt8 × Int} {c:Cx} {w:World} {n m:Nat} {s:Sx.St} (hx:Bg.ex c.full n=some (x,m)) (h:RD c w n s):
  Calls Tryz.prog 148 #[.pointer (some ⟨c.rb,0,none⟩)] w (Ok c w (lf x) m s.part):=by
 have HX:=hide hx
 have HH:=hide h
 have HB:=hide h.lt
 obtain ⟨_,_,_,_,_,hq,_⟩:=ex_of hx
 have HQ:=hide (hq [60] (by decide))
 have HQ':=hide (hq [61,61] (by decide))
 have hr:=h.rlt
 have c6:=h.c6
 have bs6:s.parts≤12000:=by have:=h.b6;omega
 clear hx h hq
 have HA:=hide (fun w h=>at_any c w n s h)
 generalize Sx.place c.e (c.full.drop n)=pl at *
 go_enter Tryz.func148,Tryz.ntmps148
 go_wp2
 go_quiet ((go_at_call 80;exact Calls.quiet_of (HA.out _ (by exact (HH.out.alloc _).drewN _))))
 go_wp2_with fail
 refine (sum_ok HX.out (by exact (HH.out.alloc _).drewN _)).mono ?_
 rintro e w1 ⟨rfl,hd1,hk1⟩
 have HS:=hide (LX.start (x:=x) HB.out ((X4.new w _ _ _ _ 184).keep ((Kp.refl [] _).drewN _) (by simp)) (((Kp.refl _ _).alloc _).drewN _) hd1 hk1 184)
 have hlt:=HS.out.lt
 obtain ⟨x0,x1,x2,x3,xf⟩:=HS.out.v2.x
 obtain ⟨y0,y1,y2,y3,yf⟩:=HS.out.v2.z
 have g6:=HS.out.rd.c6
 simp only [Sx.St.part] at g6
 clear hd1 hk1 c6
 simp only [lf]
 go_wp2_with fail
 refine (sees_no ⟨#[60]⟩ HQ.out HS.out.rd).mono ?_
 rintro e w2 ⟨rfl,kk,rfl⟩
 go_wp2_with fail
 refine (sees_no ⟨#[61,61]⟩ HQ'.out (HS.out.drewN _).rd).mono ?_
 rintro e w2 ⟨rfl,k2,rfl⟩
 go_wp2
 exact bodyPost_ret (v:=lf x) (by simp [results,Tryz.results148,go_sem,y0,y1,y2,y3,lf]) rfl (HS.out.drewN (kk+k2)).fin
set_option maxRecDepth 100000 in
set_option maxHeartbeats 1000000 in
theorem exprs_ok {x:Int × List UInt8 × Int} {c:Cx} {w:World} {n m:Nat} {s:Sx.St} (hx:Bg.ex c.full n=some (x,m)) (h:RD c w n s):
  Calls Tryz.prog 145 #[.pointer (some ⟨c.rb,0,none⟩)] w fun e w'=> ∃ v,(EL w' (fun b=>w.heap.size≤b) 2 [Sx.tE x.1 x.2.1 x.2.2 []] v∧ ∃ g,v= .slice (some ⟨g,0,none⟩) 1 1)∧Ok c w v m s.part e w':=by
 have HO:=hide (expr_ok hx h)
 clear h hx
 go_enter Tryz.func145,Tryz.ntmps145
 go_wp2_with fail
 refine HO.out.mono ?_
 rintro e w1 ⟨rfl,hd,hk⟩
 have HD:=hide hd
 have HK:=hide hk
 clear hd hk
 simp only [lf]
 go_wp2
 go_ret
 have X:=X4.new w1 (.int .i64 x.1) (.string (bs x.2.1)) (.int .i64 x.2.2) (.slice none 0 0) 184
 exact ⟨_,⟨EL.one HK.out.size X.c0 X.c1 X.c2 X.c3 (EL.nil _ _ _ _),_,rfl⟩,rfl,HD.out.alloc _,HK.out.alloc _⟩
end Go.Proofs.YteeocekjekclbaaGreatDoor
namespace Go.Proofs.YteeocekjekclbaaGreatDoor
open Go.RowKit
namespace Bg
def ty (T:List Tk.Tok):Nat→List UInt8→Nat→Option (List UInt8 × Nat)
 |0,_,_=>none
 |f+1,acc,n=>if Sx.txt (T.drop n)=Sx.wSend∨Sx.txt (T.drop n)=Sx.wRecv then (if acc.length=3 then none else ty T f (acc++(Sx.txt (T.drop n)).take 1) (n+1)) else (skp Sx.wInt T n).bind fun m=>some (acc++[105],m)
def brL {α:Type} (one:α→Nat→Sx.St→Option (α × Nat × Sx.St)) (T:List Tk.Tok):Nat→Nat→α→Nat→Sx.St→Option (α × Nat × Sx.St)
 |0,_,_,_,_=>none
 |f+1,k,a,n,s=>if Sx.txt (T.drop n)=[44] then (if k=6 then none else (one a (n+1) s).bind fun r=>brL one T f (k+1) r.1 r.2.1 r.2.2) else some (a,n,s)
def br {α:Type} (one:α→Nat→Sx.St→Option (α × Nat × Sx.St)) (T:List Tk.Tok) (a:α) (n:Nat) (s:Sx.St):Option (α × Nat × Sx.St):=
 (skp [40] T n).bind fun n=>if Sx.txt (T.drop n)=[41] then none else (one a n s).bind fun r=>(brL one T 7 1 r.1 r.2.1 r.2.2).bind fun r=>(skp [41] T r.2.1).bind fun m=>some (r.1,m,r.2.2)
end Bg
def nextOf (c:Cx) (w:World):Nat:=(intOf ((w.cell? ⟨c.rb,1,none⟩).getD (.int .i64 0))).toNat
theorem RD.nx {c:Cx} {w:World} {n:Nat} {s:Sx.St} (h:RD c w n s):nextOf c w=n:=by
 unfold nextOf
 rw [h.c1]
 simp [intOf]
theorem bs_snoc (l:List UInt8) (b:UInt8):bs l++(⟨#[b]⟩:ByteArray)=bs (l++[b]):=by
 apply ByteArray.ext
 rw [ByteArray.data_append]
 simp [bs]
theorem text_is {c:Cx} {w:World} {n:Nat} {s:Sx.St} (x:ByteArray) (hx:Sx.txt (c.full.drop n)=x.data.toList) (h:RD c w n s):
  Calls Tryz.prog 87 #[.pointer (some ⟨c.rb,0,none⟩)] w fun e w'=>e= .returned (.string x)∧ ∃ k,w'=w.drewN k:=by
 have:=text_any c w n s h
 rw [hx,show bs x.data.toList=x from by simp [bs]] at this
 exact this
def tyJ (c:Cx) (w:World) (s:Sx.St) (r:List UInt8 × Nat) (t:Value) (wr:World):Prop:= ∃ (f:Nat) (acc:List UInt8) (n:Nat) (ba:ByteArray),t= .string ba∧Hid (ba=bs acc)∧ba.size≤3∧Hid (Bg.ty c.full f acc n=some r)∧Hid (RD c wr n s)∧Hid (Kp [c.rb] w wr)
set_option maxRecDepth 100000 in
set_option maxHeartbeats 2000000 in
theorem typeText_ok {f:Nat} {r:List UInt8 × Nat} {c:Cx} {w:World} {n:Nat} {s:Sx.St} (hr:Bg.ty c.full f [] n=some r) (h:RD c w n s):
  Calls Tryz.prog 85 #[.pointer (some ⟨c.rb,0,none⟩)] w (Ok c w (.string (bs r.1)) r.2 s):=by
 have HH:=hide h
 have HR:=hide hr
 clear h hr
 go_enter Tryz.func85,Tryz.ntmps85
 go_wp2
 go_loopw [3] (fun t wr=>tyJ c w s r t wr) (fun _ wr=>c.full.length - nextOf c wr)
 case atStart=>exact ⟨f,[],n,_,rfl,rfl,by decide,HR.out,HH.out,Kp.refl _ _⟩
 case round=>
  obtain ⟨f2,acc,n2,ba,rfl,HBA,hb,HP,HD,HK⟩:=hrel
  have hsz:ba.size=acc.length:=by rw [HBA.out,Lib.size_eq,bs_list]
  match f2,HP with
  |0,HP=>cases HP.out
  |f2+1,HP=>
  rcases oif HP.out with ⟨ht,hp⟩|⟨ht,hp⟩
  ·rcases oif hp with ⟨_,hp⟩|⟨h3,hp⟩
   ·cases hp
   have hlt:n2<c.full.length:=by
    rcases ht with e|e<;> exact txt_lt e (by decide)
   have hb3:((ba.size:Int) == 3)=false:=by rw [hsz];simp;omega
   have c1:=HD.out.c1
   have f1:=HD.out.fz 1
   have hm:=HD.out.hm
   have hl:ba.size+1≤3:=by omega
   have fin:Hid (∀ (y:List UInt8) (b:UInt8) (l:List UInt8) (k:Nat),Sx.txt (c.full.drop n2)=y→y=b::l→tyJ c w s r (.string (ba++⟨#[b]⟩)) ((wr.drewN k).setCell ⟨c.rb,1,none⟩ (.int .i64 ((n2:Int)+1)))∧c.full.length - nextOf c ((wr.drewN k).setCell ⟨c.rb,1,none⟩ (.int .i64 ((n2:Int)+1)))<c.full.length - nextOf c wr):=fun y b l k e1 e2=>by
    have hd9:=(HD.out.drewN k).step hlt
    refine ⟨⟨f2,acc++[b],n2+1,_,rfl,by show _=_;rw [HBA.out,bs_snoc],?_,?_,hd9,Kp.rb (HK.out.drewN _) _ _⟩,?_⟩
    ·rw [ByteArray.size_append]
     exact hl
    ·show _=_
     rw [←hp,e1,e2]
     rfl
    ·rw [hd9.nx,HD.out.nx]
     omega
   clear hp h3 hl
   by_cases hs:Sx.txt (c.full.drop n2)=Sx.wSend
   ·have hex:(⟨#[115,101,110,100]⟩:ByteArray).extract 0 1=⟨#[115]⟩:=by rfl
    have HS:=hide hs
    clear hs ht
    go_wp2_with fail
    refine (sees_yes ⟨#[115,101,110,100]⟩ HS.out HD.out).mono ?_
    rintro e w2 ⟨rfl,k1,rfl⟩
    go_wp2_with fail
    refine (text_is ⟨#[115,101,110,100]⟩ HS.out (HD.out.drewN _)).mono ?_
    rintro e w2 ⟨rfl,k2,rfl⟩
    go_wp2
    exact fin.out _ 115 _ _ HS.out rfl
   ·have hs2:=ht.resolve_left hs
    have hex:(⟨#[114,101,99,118]⟩:ByteArray).extract 0 1=⟨#[114]⟩:=by rfl
    have HS:=hide hs
    have HS2:=hide hs2
    clear hs ht hs2
    go_wp2_with fail
    refine (sees_no ⟨#[115,101,110,100]⟩ HS.out HD.out).mono ?_
    rintro e w2 ⟨rfl,k9,rfl⟩
    go_wp2_with fail
    refine (sees_yes ⟨#[114,101,99,118]⟩ HS2.out (HD.out.drewN _)).mono ?_
    rintro e w2 ⟨rfl,k1,rfl⟩
    go_wp2_with fail
    refine (text_is ⟨#[114,101,99,118]⟩ HS2.out (HD.out.drewN _)).mono ?_
    rintro e w2 ⟨rfl,k2,rfl⟩
    go_wp2
    exact fin.out _ 114 _ _ HS2.out rfl
  ·obtain ⟨m,h1,h2⟩:=obind hp
   cases h2
   have HS:=hide (fun e=>ht (.inl e))
   have HS2:=hide (fun e=>ht (.inr e))
   have HM:=hide h1
   clear ht hp h1
   go_wp2_with fail
   refine (sees_no ⟨#[115,101,110,100]⟩ HS.out HD.out).mono ?_
   rintro e w2 ⟨rfl,k9,rfl⟩
   go_wp2_with fail
   refine (sees_no ⟨#[114,101,99,118]⟩ HS2.out (HD.out.drewN _)).mono ?_
   rintro e w2 ⟨rfl,k1,rfl⟩
   go_wp2_with fail
   refine (skip_ok ⟨#[105,110,116]⟩ HM.out (HD.out.drewN _)).mono ?_
   rintro e w3 ⟨rfl,hd3,hk3⟩
   have HD3:=hide hd3
   have HK3:=hide hk3
   clear hd3 hk3
   go_wp2
   go_ret
   exact ⟨by rw [HBA.out,bs_snoc];rfl,HD3.out,(HK.out.drewN _).trans HK3.out⟩
theorem doOf_none (x:List UInt8) (h:x ∉ Sx.dos):Sx.doOf x=0:=by
 have h1:Sx.dos.idxOf x=Sx.dos.length:=List.idxOf_eq_length h
 unfold Sx.doOf
 rw [h1]
 rfl
theorem ret_int {k:IntKind} {a b:Int} (h:a=b):Ending.returned (.int k a)= .returned (.int k b):=by rw [h]
set_option maxRecDepth 100000 in
set_option maxHeartbeats 1000000 in
theorem doOf_any (x:ByteArray) (w:World):
  Calls Tryz.prog 131 #[.string x] w fun e w'=>e= .returned (.int .i64 (Sx.doOf x.data.toList))∧w'=w:=by
 rw [←Lib.toList_data]
 go_enter Tryz.func131,Tryz.ntmps131
 go_wp2
 all_goals
  go_ret
  refine ⟨ret_int ?_,rfl⟩
  first
  |(simp_all [Sx.doOf,Sx.dos,List.idxOf_cons];done)
  |(rw [doOf_none _ (by simp_all [Sx.dos])];rfl)
set_option maxRecDepth 100000 in
set_option maxHeartbeats 2000000 in
theorem bracketed_ok {α:Type} (F:FuncId) (caps:Array Value) (hF: ∀ w,(callFunc F caps).run Tryz.prog w= .ok (.enter F caps) w) (c:Cx) (S:List Nat) (hS:c.rb ∈ S) (I:World→α→Prop) (hI: ∀ w w' a,I w a→Kp [c.rb] w w'→I w' a)
  (one:α→Nat→Sx.St→Option (α × Nat × Sx.St)) (w:World) (hC: ∀ w1 a n s a' n' s',I w1 a→RD c w1 n s→Kp S w w1→one a n s=some (a',n',s')→Calls Tryz.prog F caps w1 fun e w2=>e= .returned (.tuple #[])∧I w2 a'∧RD c w2 n' s'∧Kp S w w2)
  {a:α} {n:Nat} {s:Sx.St} {r:α × Nat × Sx.St} (hi:I w a) (h:RD c w n s) (hr:Bg.br one c.full a n s=some r):
  Calls Tryz.prog 83 #[.pointer (some ⟨c.rb,0,none⟩),.func (.func F) #[] caps] w fun e w'=>e= .returned (.tuple #[])∧I w' r.1∧RD c w' r.2.1 r.2.2∧Kp S w w':=by
 obtain ⟨n1,h1,hr⟩:=obind hr
 rcases oif hr with ⟨_,hr⟩|⟨h41,hr⟩
 ·cases hr
 obtain ⟨⟨a2,n2,s2⟩,h2,hr⟩:=obind hr
 obtain ⟨⟨a3,n3,s3⟩,h3,hr⟩:=obind hr
 obtain ⟨m,h4,hr⟩:=obind hr
 cases hr
 have HH:=hide h
 have HI:=hide hI
 have HC:=hide hC
 have HI0:=hide hi
 have H1:=hide h1
 have H2:=hide h2
 have H3:=hide h3
 have H4:=hide h4
 have H41:=hide h41
 have HSub:Hid (∀ a b,Kp [c.rb] a b→Kp S a b):=fun a b h=>h.mono (by simpa using hS)
 clear h hI hC hi hS h1 h2 h3 h4 h41
 go_enter Tryz.func83,Tryz.ntmps83
 go_wp2_with fail
 refine (skip_ok ⟨#[40]⟩ H1.out HH.out).mono ?_
 rintro e w1 ⟨rfl,hd1,hk1⟩
 have HD1:=hide hd1
 have HK1:=hide hk1
 have HI1:=hide (HI.out _ _ _ HI0.out hk1)
 clear hd1 hk1
 go_wp2_with fail
 refine (sees_no ⟨#[41]⟩ H41.out HD1.out).mono ?_
 rintro e w2 ⟨rfl,k1,rfl⟩
 go_wp2_with fail
 refine (HC.out _ a n1 s a2 n2 s2 (HI.out _ _ _ HI1.out ((Kp.refl _ _).drewN _)) (HD1.out.drewN _) (HSub.out _ _ (HK1.out.drewN _)) H2.out).mono ?_
 rintro e w3 ⟨rfl,hi3,hd3,hk3⟩
 have HI3:=hide hi3
 have HD3:=hide hd3
 have HK3:=hide hk3
 clear hi3 hd3 hk3
 go_wp2
 go_loopw [4] (fun q wr=> ∃ (j m n4:Nat) (a4:α) (s4:Sx.St),q= .int .i64 m∧m≤6∧Hid (Bg.brL one c.full j m a4 n4 s4=some (a3,n3,s3))∧Hid (RD c wr n4 s4)∧Hid (I wr a4)∧Hid (Kp S w wr)) (fun q _=>7 - (intOf q).toNat)
 case atStart=>exact ⟨7,1,n2,a2,s2,rfl,by omega,H3.out,HD3.out,HI3.out,HK3.out⟩
 case round=>
  obtain ⟨j,m,n4,a4,s4,rfl,hm6,HP,HD4,HI4,HK4⟩:=hrel
  match j,HP with
  |0,HP=>cases HP.out
  |j+1,HP=>
  rcases oif HP.out with ⟨ht,hp⟩|⟨ht,hp⟩
  ·rcases oif hp with ⟨_,hp⟩|⟨h6,hp⟩
   ·cases hp
   obtain ⟨⟨a5,n5,s5⟩,h5,hp⟩:=obind hp
   have HT:=hide ht
   have H5:=hide h5
   have HP5:=hide hp
   have HSK:Hid (Bg.skp [44] c.full n4=some (n4+1)):=if_pos ht
   have d6:((m:Int) == 6)=false:=by simp;omega
   have hl6:m<6:=by omega
   clear ht hp h5 h6
   go_wp2_with fail
   refine (sees_yes ⟨#[44]⟩ HT.out HD4.out).mono ?_
   rintro e w2 ⟨rfl,k2,rfl⟩
   go_wp2_with fail
   refine (skip_ok ⟨#[44]⟩ HSK.out (HD4.out.drewN _)).mono ?_
   rintro e w5 ⟨rfl,hd5,hk5⟩
   have HD5:=hide hd5
   have HK5:=hide ((HK4.out.drewN k2).trans (HSub.out _ _ hk5))
   have HI5:=hide (HI.out _ _ _ (HI.out _ _ _ HI4.out ((Kp.refl _ _).drewN _)) hk5)
   clear hd5 hk5
   go_wp2_with fail
   refine (HC.out _ a4 _ s4 a5 n5 s5 HI5.out HD5.out HK5.out H5.out).mono ?_
   rintro e w6 ⟨rfl,hi6,hd6,hk6⟩
   have HI6:=hide hi6
   have HD6:=hide hd6
   have HK6:=hide hk6
   clear hi6 hd6 hk6
   go_wp2
   refine ⟨⟨j,m+1,n5,a5,s5,by go_num,by omega,HP5.out,HD6.out,HI6.out,HK6.out⟩,?_⟩
   simp [intOf]
   omega
  ·cases hp
   have HT:=hide ht
   clear ht
   go_wp2_with fail
   refine (sees_no ⟨#[44]⟩ HT.out HD4.out).mono ?_
   rintro e w2 ⟨rfl,k2,rfl⟩
   go_wp2_with fail
   refine (skip_ok ⟨#[41]⟩ H4.out (HD4.out.drewN _)).mono ?_
   rintro e w5 ⟨rfl,hd5,hk5⟩
   have HD5:=hide hd5
   have HK5:=hide ((HK4.out.drewN k2).trans (HSub.out _ _ hk5))
   have HI5:=hide (HI.out _ _ _ (HI.out _ _ _ HI4.out ((Kp.refl _ _).drewN _)) hk5)
   clear hd5 hk5
   go_wp2
   go_end0
   exact ⟨rfl,HI5.out,HD5.out,HK5.out⟩
end Go.Proofs.YteeocekjekclbaaGreatDoor
