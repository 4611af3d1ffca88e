import Derived.Test.YtcdcoiobpbdmpaaGreatDoorMaj
import Derived.Test.YtcdcoiobpbdmpaaGreatDoorMai
import Derived.Deep.RegionLaw
import Derived.Laws.AppendOwnNone
import Derived.BigRegion
namespace Go.Proofs.YtcdcoiobpbdmpaaGreatDoor
open Go.RowKit
theorem EL.keepX {w w':World} {X P:Nat→Prop} {n:Nat} {l:List Sx.Tr} {v:Value} (h:EL w P n l v) (hk:Kx X w w') (hS: ∀ k,P k→X k):EL w' P n l v:=by
 induction n generalizing l v with
 |zero=>cases h
 |succ n ih=>
  obtain ⟨a,cap,hv,h⟩:=h
  refine ⟨a,cap,hv,h.imp id ?_⟩
  rintro ⟨b,off,ha,hB,hc⟩
  refine ⟨b,off,ha,hB,fun i d hd=> ?_⟩
  obtain ⟨op,nm,k,L,u,h1,h2,h3,h4,h5,h6⟩:=hc i d hd
  exact ⟨op,nm,k,L,u,h1,hk.cell h2 (hS b hB),hk.cell h3 (hS b hB),hk.cell h4 (hS b hB),hk.cell h5 (hS b hB),ih h6⟩
theorem Sl.keepX {R R':Sx.Tr→List Value→Prop} {w w':World} {X P:Nat→Prop} {l:List Sx.Tr} {v:Value} (h:Sl R w P l v) (hk:Kx X w w') (hS: ∀ k,P k→X k) (hR: ∀ d c,R d c→R' d c):Sl R' w' P l v:=by
 obtain ⟨a,cap,hv,h⟩:=h
 refine ⟨a,cap,hv,h.imp id ?_⟩
 rintro ⟨b,off,cs,ha,hb,hr,hc⟩
 exact ⟨b,off,cs,ha,hb,hr.mono hR,fun j u hu=>hk.cell (hc j u hu) (hS b hb)⟩
theorem SL.keepX {w w':World} {X P:Nat→Prop} {n:Nat} {l:List Sx.Tr} {v:Value} (h:SL w P n l v) (hk:Kx X w w') (hS: ∀ k,P k→X k):SL w' P n l v:=by
 induction n generalizing l v with
 |zero=>cases h
 |succ n ih=>
  rw [SL_succ] at h ⊢
  refine h.keepX hk hS ?_
  rintro d c ⟨D,at',A,B,T,N,E,body,els,uE,uB,uL,h1,h2,h3,h4,h5⟩
  exact ⟨D,at',A,B,T,N,E,body,els,uE,uB,uL,h1,h2,h3.keepX hk hS,ih h4,ih h5⟩
theorem RS.keepX {w w':World} {X P:Nat→Prop} {n:Nat} {d:Sx.Tr} {c:List Value} (h:RS w P n d c) (hk:Kx X w w') (hS: ∀ k,P k→X k):RS w' P n d c:=by
 obtain ⟨D,at',A,B,T,N,E,body,els,uE,uB,uL,h1,h2,h3,h4,h5⟩:=h
 exact ⟨D,at',A,B,T,N,E,body,els,uE,uB,uL,h1,h2,h3.keepX hk hS,h4.keepX hk hS,h5.keepX hk hS⟩
theorem TxR.keepX {X:Nat→Prop} {w w':World} {v:Value} {l:List ByteArray} (h:TxR w v l) (hb:Kx X w w') (hX: ∀ g,v.ownBlock=some g→X g):TxR w' v l:=by
 obtain ⟨a,c,h1,h2⟩:=h
 refine ⟨a,c,h1,fun hn=> ?_⟩
 obtain ⟨g,o,h3,h4⟩:=h2 hn
 have hg:X g:=hX g (by rw [h1,h3];rfl)
 exact ⟨g,o,h3,fun k x hx=>hb.cell (h4 k x hx) hg⟩
theorem Lw.over_cons {s s':Lw.St} {bk at':Int} {nm:ByteArray} {r:List ByteArray} (h:Lw.over s bk at' (nm::r)=some s'): ∃ s2,Lw.ov1 s bk at' nm=some s2∧Lw.over s2 bk at' r=some s':=Option.bind_eq_some_iff.1 h
theorem Lw.vat_some {vs:List Lw.Vr} {k:Int} {y:Lw.Vr} (h:Lw.vat vs k=some y):0≤k∧k<(vs.length:Int)∧vs[k.toNat]? =some y:=by
 unfold Lw.vat at h
 split at h
 ·have:=(List.getElem?_eq_some_iff.1 h).1
  exact ⟨by assumption,by omega,h⟩
 ·cases h
theorem Lw.ov1_some {s s':Lw.St} {bk at':Int} {nm:ByteArray} (h:Lw.ov1 s bk at' nm=some s'): ∃ y,0≤Cd.nmb s.vs nm∧Cd.nmb s.vs nm<(s.vs.length:Int)∧s.vs[(Cd.nmb s.vs nm).toNat]? =some y∧(if Cd.endT y.2 then Lw.put s bk at' (Cd.ovI (Cd.nmb s.vs nm)) else some s)=some s':=by
 unfold Lw.ov1 at h
 cases hv:Lw.vat s.vs (Cd.nmb s.vs nm) with
 |none=>rw [hv] at h;cases h
 |some y=>
  rw [hv] at h
  obtain ⟨h1,h2,h3⟩:=Lw.vat_some hv
  exact ⟨y,h1,h2,h3,h⟩
set_option maxRecDepth 100000 in
set_option maxHeartbeats 2000000 in
theorem lOver_any {C:MC} {m:MA} {s s':Lw.St} {bk at':Int} {w:World} (h:MK C m s bk at' w) (an:Option Addr) (cn:Nat) (l:List ByteArray) (ht:TxR w (.slice an l.length cn) l) (hX: ∀ j,ob an=some j→ ¬ m.mut C.g j) (hll:l.length≤1000000) (hs:Lw.over s bk at' l=some s'):
  Calls Tryz.prog 29 #[.pointer (some ⟨C.g,0,none⟩),.slice an l.length cn] w fun e w'=>e= .returned (.tuple #[])∧ ∃ m',MK C m' s' bk at' w'∧MS C.g m w m' w':=by
 have HM:=hide h
 have HT:=hide ht
 have HXX:Hid (∀ j,(Value.slice an l.length cn).ownBlock=some j→ ¬ m.mut C.g j):=hide (fun j hj=>hX j (by rw [←ob_own an l.length cn];exact hj))
 have HS:=hide hs
 clear h ht hX hs
 go_enter Tryz.func29,Tryz.ntmps29
 go_wp2
 go_loopw [9] (fun jv wr=> ∃ (i:Nat) (mi:MA) (si:Lw.St),i≤l.length∧jv= .int .i64 i∧Hid (MK C mi si bk at' wr)∧Hid (MS C.g m w mi wr)∧Hid (Lw.over si bk at' (l.drop i)=some s')) (fun jv _=>l.length - (intOf jv).toNat)
 case atStart=>exact ⟨0,m,s,Nat.zero_le _,rfl,HM,hide (MS.refl _ _ _),by simpa using HS⟩
 case round=>
  obtain ⟨i,mi,si,hi,rfl,HW,HKx,HO⟩:=hrel
  clear HS
  by_cases hlt:i<l.length
  ·have d1:decide ((i:Int)<(l.length:Int))=true:=by simp;omega
   obtain ⟨nm,hx⟩: ∃ y,l[i]? =some y:=⟨_,List.getElem?_eq_getElem hlt⟩
   obtain ⟨a2,c2,e2,h2⟩:=HT.out.keepX HKx.out.kx HXX.out
   obtain ⟨rfl,-,rfl⟩:an=a2∧True∧cn=c2:=by simpa using e2
   obtain ⟨gn,on,rfl,hc⟩:=h2 (List.ne_nil_of_mem (List.mem_of_getElem? hx))
   have x0:=hc i nm hx
   have hdr:l.drop i=nm::l.drop (i+1):=by rw [List.drop_eq_getElem_cons hlt,(List.getElem?_eq_some_iff.1 hx).2]
   have ho:=HO.out
   rw [hdr] at ho
   obtain ⟨s2,ho1,ho2⟩:=Lw.over_cons ho
   have HO2:=hide ho2
   obtain ⟨⟨yn,yt⟩,hk0,hk1,hy,hif⟩:=Lw.ov1_some ho1
   have CN:=hide (lNumber_any si.vs nm mi.av mi.cv C.g wr HW.out.c1 HW.out.vaR HW.out.vl)
   have v1:=HW.out.c1
   obtain ⟨k,hkk⟩: ∃ k:Nat,Cd.nmb si.vs nm=(k:Int):=⟨(Cd.nmb si.vs nm).toNat,by omega⟩
   obtain ⟨a3,c3,e3,h3⟩:=HW.out.vaR
   rw [hkk] at CN hk0 hk1 hy hif
   rw [Int.toNat_natCast] at hy
   have HIF:=hide hif
   obtain ⟨h31,-⟩:mi.av=a3∧mi.cv=c3:=by simpa using e3
   obtain ⟨gv,ov,h32,hcv⟩:=h3 (List.ne_nil_of_mem (List.mem_of_getElem? hy))
   have y1:=(hcv k _ hy).2
   dsimp only at y1
   rw [h31,h32] at v1
   clear hc h2 e2 h3 e3 hcv hx hy hkk ho ho1 ho2 hdr HO hif h31 h32
   have hi0:(0:Int)≤(i:Int):=by omega
   have hi1:(i:Int)<(l.length:Int):=by omega
   go_wp2_with fail
   refine CN.out.mono ?_
   rintro e w1 ⟨rfl,hb1⟩
   have s1:=bsome hb1 v1
   have s2':=bsome hb1 y1
   have HW1:=hide (HW.out.below hb1)
   have HK1:Hid (MS C.g m w mi w1):=hide (HKx.out.trans (MS.of_below hb1))
   have CE:=hide (lIsEnd_any yt w1)
   clear hb1 CN HW HKx v1 y1 x0
   go_wp2_with fail
   refine CE.out.mono ?_
   rintro e w2 ⟨rfl,rfl⟩
   clear CE
   cases hq:Cd.endT yt with
   |true=>
    have hp:Lw.put si bk at' (Cd.ovI (k:Int))=some s2:=by have:=HIF.out;rw [hq] at this;exact this
    have CP:=hide (mput_any HW1.out (Cd.ovI (k:Int)) hp none 0 none 0 (ERn.nil _ _) (AGn.nil _ _))
    unfold IV Cd.ovI at CP
    dsimp only at CP
    clear HIF HW1 hp
    go_wp2_with fail
    refine CP.out.mono ?_
    rintro e w3 ⟨rfl,m3,hm3,hk3⟩
    have HW3:=hide hm3
    have HK3:Hid (MS C.g m w m3 w3):=hide (HK1.out.trans hk3)
    clear hm3 hk3 CP s1 s2'
    go_wp2
    go_roundw
    case rel=>exact ⟨i+1,m3,s2,by omega,by go_num,HW3,HK3,HO2⟩
    case measure=>simp [intOf];omega
   |false=>
    have hp:si=s2:=by have:=HIF.out;rw [hq] at this;exact Option.some.inj this
    subst hp
    clear HIF
    go_wp2
    go_roundw
    case rel=>exact ⟨i+1,mi,si,by omega,by go_num,HW1,HK1,HO2⟩
    case measure=>simp [intOf];omega
  ·obtain rfl:i=l.length:=by omega
   have d1:decide ((l.length:Int)<(l.length:Int))=false:=by simp
   have hfin:si=s':=by have:=HO.out;rw [List.drop_length] at this;exact Option.some.inj this
   subst hfin
   go_wp2
   refine bodyPost_end (v:= .tuple #[]) (results_none rfl _ _ _) rfl ⟨rfl,mi,HW.out,HKx.out⟩
theorem step_call_ex {P:Program} {ops:Array Oper} {o:Oper} {a:Act} {w:World} {K:Act→World→Prop} {Q:Exit→Act→World→Prop} {E:Prop} (hgd:o.guard=none) (f:FuncId) (args:Array Value) (hrun:(execOp a.eval o).run P w= .ok (.enter f args) w)
  {R:Value→World→Prop} (hC:Calls P f args w fun e w'=> ∃ v,e= .returned v∧R v w') (hK: ∀ v w',R v w'→K (a.put o.dst v) w'):if Region.wanted o (yielded ops a.tmps)=true then Oper.wp P o a w K Q else E:=by
 have hw:Region.wanted o (yielded ops a.tmps)=true:=by simp [Region.wanted,hgd]
 rw [if_pos hw]
 unfold Oper.wp
 rw [hrun]
 show Calls P f args w _
 refine hC.mono ?_
 rintro e w' ⟨v,rfl,hr⟩
 exact hK v w' hr
theorem step_call_rv {P:Program} {ops:Array Oper} {o:Oper} {a:Act} {w:World} {K:Act→World→Prop} {Q:Exit→Act→World→Prop} {E:Prop} (hgd:o.guard=none) (f:FuncId) (args:Array Value) (hrun:(execOp a.eval o).run P w= .ok (.enter f args) w)
  {v:Value} {R:World→Prop} (hC:Calls P f args w fun e w'=>e= .returned v∧R w') (hK: ∀ w',R w'→K (a.put o.dst v) w'):if Region.wanted o (yielded ops a.tmps)=true then Oper.wp P o a w K Q else E:=
 step_call_ex hgd f args hrun (R:=fun u w'=>u=v∧R w') (hC.mono (fun e w' h=>⟨v,h.1,rfl,h.2⟩)) (fun u w' h=>by obtain ⟨rfl,h2⟩:=h;exact hK w' h2)
theorem grown_refl (w:World) (r:Option Nat):w.grownBy w r:=⟨rfl,rfl,rfl,Nat.le_refl _,fun _ _ _=>rfl⟩
theorem step_append_row {P:Program} {w:World} {ops:Array Oper} {o:Oper} {a:Act} {K:Act→World→Prop} {Q:Exit→Act→World→Prop} {E:Prop} (hgd:o.guard=none) (s x:Operand) (t:TypeId)
  (ho:o.op= .call { callee:= .builtin .append,args:= #[s,x],argTypes:= #[t,t] })
  (base:Nat) (e:TypeId) (i:TypeInfo) (z:Value) (size bytes:Nat) (ht:P.underlying t=some (.slice e)) (hi:P.info? e=some i) (hz:i.zero=some z)
  (hsize:i.size=size) (hby:i.bytes=bytes) (hzs:z.cells.size=size) (hsz:0<size)
  (v:Value) (n:Nat) (xs:List Value) (hs:a.eval s=v) (hown:w.ownsRow base e size v n xs)
  (b2:Nat) (vx:Value) (m:Nat) (news:List Value) (hx:a.eval x=vx) (hrow:w.ownsRow b2 e size vx m news) (hm0:m=0→vx= .slice none 0 0) (h1: ∀ u ∈ news,u.oneCell'=true)
  (h63:n+m≤maxLen) (hbytes:(n+m) * bytes≤140737488355328) (hbase:base≤w.heap.size) (H:Nat) (hH:w.heap.size=H)
  (h: ∀ v' w',w'.ownsRow base e size v' (n+m) (xs++news)→w.grownBy w' v.ownBlock→(v'.ownBlock=v.ownBlock∨v'.ownBlock=some H)→K (a.put o.dst v') w'):
  if Region.wanted o (yielded ops a.tmps)=true then Oper.wp P o a w K Q else E:=by
 rcases hrow.2 with ⟨h2,h3⟩|⟨g,cap,cur,h2,-⟩
 ·have hw:Region.wanted o (yielded ops a.tmps)=true:=by simp [Region.wanted,hgd]
  rw [if_pos hw]
  have hrun:=run_append_owned_none (P:=P) (w:=w) base t o.type e i size ht hi v n xs hown
  have hxx:a.eval x= .slice none 0 0:=by rw [hx];exact h2
  unfold Oper.wp
  simp [execOp,ho,resolve,invoke,builtin,hs,hxx,hrun,Result.andThen]
  have hn:news=[]:=by have:=hrow.1;rw [h3] at this;simpa using this
  subst h3 hn
  refine h v w ?_ (grown_refl _ _) (.inl rfl)
  simpa using hown
 ·by_cases hm:m=0
  ·have:=hm0 hm;rw [h2] at this;simp at this
  ·refine step_append_lies w hgd s x t ho base e i z size bytes ht hi hz hsize hby hzs hsz v n xs hs hown ⟨g,0,none⟩ m cap news (by rw [hx];exact h2) hrow.1 ?_ h1 (by omega) h63 hbytes hbase H hH (fun g cap w' q1 q2 q3 q4=>h _ w' q1 q2 (q3.imp (fun e=>by rw [e];rfl) (fun e=>by rw [e];rfl)))
   exact fun j u hu=>hrow.cells (g:=g) (by rw [h2];rfl) j u hu
def Cd.ecl (x:Int × Int):List Value:=[.int .i64 x.1,.int .i64 x.2]
theorem Cd.ecl_one (l:List (Int × Int)): ∀ u ∈ l.flatMap Cd.ecl,u.oneCell'=true:=by
 intro u hu
 obtain ⟨x,_,hx⟩:=List.mem_flatMap.1 hu
 simp [Cd.ecl] at hx
 rcases hx with rfl|rfl<;> rfl
theorem Tryz.infoPush:(Tryz.prog.info? 161).map (fun i=>(i.zero,i.size,i.bytes))=some (some (.agg #[.int .i64 0,.int .i64 0]),2,16):=by kernel_rfl
def LStP (E:List (Int × Int)) (w:World) (e:Ending) (w':World):Prop:= ∃ v,e= .returned v∧(w'.ownsRow w.heap.size 161 2 v E.length (E.flatMap Cd.ecl)∧(E.length=0→v= .slice none 0 0)∧Below w.heap.size w w')
theorem stps_cons (vs:List Lw.Vr) (n:Nat) (l:List Sx.Tr) (i:Nat) (d:Sx.Tr) (h:l[i]? =some d):Lw.stps vs (n+1) (l.take (i+1))=(Lw.stps vs (n+1) (l.take i)++Lw.stps vs n (Sx.eL d))++[Cd.stp vs (Sx.eH d).1 (bs (Sx.eH d).2.1) (Sx.eH d).2.2]:=by
 rw [List.take_add_one,h]
 simp [Lw.stps]
theorem stps_len (vs:List Lw.Vr) (n:Nat) (l:List Sx.Tr):(Lw.stps vs n l).length=Sx.wE n l:=by
 induction n generalizing l with
 |zero=>rfl
 |succ n ih=>
  simp only [Lw.stps,Sx.wE]
  induction l with
  |nil=>rfl
  |cons d r ih2=>simp [Sx.sum,ih] at ih2 ⊢;omega
theorem two_own (w:World) (B:Nat) (hB:B≤w.heap.size) (x y:Int):(w.alloc (.cells #[.int .i64 x,.int .i64 y] 161)).ownsRow B 161 2 (.slice (some ⟨w.heap.size,0,none⟩) 1 1) 1 [.int .i64 x,.int .i64 y]:=
 World.ownsRow_lit w _ 1 hB (by unfold maxLen;omega) rfl
def ABm (w:World) (P:Nat→Prop) (v:Value) (ab:List Lw.Ab):Prop:=
 ∃ a c,v= .slice a ab.length c∧ab.length≤1000000∧(ab ≠ []→ ∃ g o,a=some ⟨g,o,none⟩∧P g∧ ∀ (k:Nat) x,ab[k]? =some x→ ∃ av cv p1 a3 n3 c3 a4 n4 c4,w.cell? ⟨g,o+k * 5,none⟩=some (.string x.1)∧w.cell? ⟨g,o+k * 5+1,none⟩=some (.slice av x.2.length cv)∧w.cell? ⟨g,o+k * 5+2,none⟩=some (.int .i64 p1)∧w.cell? ⟨g,o+k * 5+3,none⟩=some (.slice a3 n3 c3)∧w.cell? ⟨g,o+k * 5+4,none⟩=some (.slice a4 n4 c4)∧VaR w (.slice av x.2.length cv) x.2∧(∀ j,ob av=some j→P j))
theorem VaR.keepX {X:Nat→Prop} {w w':World} {v:Value} {l:List (ByteArray × ByteArray)} (h:VaR w v l) (hb:Kx X w w') (hX: ∀ g,v.ownBlock=some g→X g):VaR w' v l:=by
 obtain ⟨a,c,h1,h2⟩:=h
 refine ⟨a,c,h1,fun hn=> ?_⟩
 obtain ⟨g,o,h3,h4⟩:=h2 hn
 have hg:X g:=hX g (by rw [h1,h3];rfl)
 exact ⟨g,o,h3,fun k x hx=>⟨hb.cell (h4 k x hx).1 hg,hb.cell (h4 k x hx).2 hg⟩⟩
theorem ABm.keepX {X:Nat→Prop} {w w':World} {P:Nat→Prop} {v:Value} {ab:List Lw.Ab} (h:ABm w P v ab) (hk:Kx X w w') (hS: ∀ k,P k→X k):ABm w' P v ab:=by
 obtain ⟨a,c,h1,hl,h2⟩:=h
 refine ⟨a,c,h1,hl,fun hn=> ?_⟩
 obtain ⟨g,o,h3,h4,h5⟩:=h2 hn
 refine ⟨g,o,h3,h4,fun k x hx=> ?_⟩
 obtain ⟨av,cv,p1,a3,n3,c3,a4,n4,c4,e0,e1,e2,e3,e4,e5,e6⟩:=h5 k x hx
 have hg:=hS g h4
 exact ⟨av,cv,p1,a3,n3,c3,a4,n4,c4,hk.cell e0 hg,hk.cell e1 hg,hk.cell e2 hg,hk.cell e3 hg,hk.cell e4 hg,e5.keepX hk (fun j hj=>hS j (e6 j (by rw [←ob_own av x.2.length cv];exact hj))),e6⟩
def LSmT (ab:List Lw.Ab) (n:Nat):Prop:= ∀ (C:MC) (m:MA) (s s':Lw.St) (bk:Int) (w:World) (P:Nat→Prop) (d:Sx.Tr) (c:List Value),MK C m s bk (Lw.sAt d) w→(∀ j,P j→j<w.heap.size∧ ¬ m.mut C.g j)→ABm w P C.uA ab→RS w P n d c→Lw.stmt ab n s bk d=some s'→
 Calls Tryz.prog 45 #[.pointer (some ⟨C.g,0,none⟩),.agg c.toArray] w fun e w'=>e= .returned (.tuple #[])∧ ∃ m',MK C m' s' bk (Lw.sAt d) w'∧MS C.g m w m' w'
structure MSJ (J:Nat→Prop) (g:Nat) (m:MA) (w:World) (m':MA) (w':World):Prop where
 kx:Kx (fun j=> ¬ m.mut g j∧ ¬ J j) w w'
 mu: ∀ j,m'.mut g j→m.mut g j∨w.heap.size≤j
theorem MSJ.of {J:Nat→Prop} {g:Nat} {m:MA} {w:World} {m':MA} {w':World} (h:MS g m w m' w'):MSJ J g m w m' w':=⟨h.kx.mono (fun _ _ h=>h.1),h.mu⟩
theorem MSJ.ms {J:Nat→Prop} {g:Nat} {m:MA} {w:World} {m':MA} {w':World} (h:MSJ J g m w m' w') (hJ: ∀ j,J j→w.heap.size≤j):MS g m w m' w':=⟨h.kx.mono (fun j hj hn=>⟨hn,fun e=>by have:=hJ j e;omega⟩),h.mu⟩
theorem MSJ.trans {J:Nat→Prop} {g:Nat} {m m1 m2:MA} {w w1 w2:World} (h:MSJ J g m w m1 w1) (k:MSJ J g m1 w1 m2 w2):MSJ J g m w m2 w2:=by
 refine ⟨⟨k.kx.os.trans h.kx.os,k.kx.tape.trans h.kx.tape,k.kx.output.trans h.kx.output,Nat.le_trans h.kx.size k.kx.size,fun i hi hn=> ?_⟩,fun j hj=> ?_⟩
 ·refine (k.kx.block i (Nat.lt_of_lt_of_le hi h.kx.size) ⟨fun hm=> ?_,hn.2⟩).trans (h.kx.block i hi hn)
  rcases h.mu i hm with h1|h1
  ·exact hn.1 h1
  ·omega
 ·rcases k.mu j hj with h1|h1
  ·exact h.mu j h1
  ·exact .inr (Nat.le_trans h.kx.size h1)
theorem Tryz.infoB:(Tryz.prog.info? 92).map (fun i=>(i.zero,i.size,i.bytes))=some (some (.agg #[.int .i64 0,.int .i64 0,.int .i64 0,.int .i64 0]),4,32):=by kernel_rfl
theorem four_new (w:World) (v0 v1 v2 v3:Value) (t:TypeId): ∀ (j:Nat) (u:Value),[v0,v1,v2,v3][j]? =some u→(w.alloc (.cells #[v0,v1,v2,v3] t)).cell? ((⟨w.heap.size,0,none⟩:Addr).add j)=some u:=by
 intro j u hj
 rw [add_off]
 match j,hj with
 |0,hj=>simp at hj;subst hj;simp [go_sem]
 |1,hj=>simp at hj;subst hj;simp [go_sem]
 |2,hj=>simp at hj;subst hj;simp [go_sem]
 |3,hj=>simp at hj;subst hj;simp [go_sem]
theorem Lw.within_some {st:Lw.St→Int→Sx.Tr→Option Lw.St} {s s':Lw.St} {blk at':Int} {b:Int × Int × Int} {body:List Sx.Tr} {last:Lw.St→Int→Option Lw.St} (h:Lw.within st s blk at' b body last=some s'):
  s.bs.length<1000000∧body.length≤1000000∧ ∃ s2 s3,Lw.stmts st ⟨s.vs,s.bs++[(b.1,blk,b.2.1,b.2.2)],s.is⟩ s.bs.length body=some s2∧Lw.overs s2 s.bs.length at' body=some s3∧last s3 s.bs.length=some s':=by
 unfold Lw.within at h
 split at h
 ·rename_i hc
  obtain ⟨s2,h1,h2⟩:=Option.bind_eq_some_iff.1 h
  obtain ⟨s3,h3,h4⟩:=Option.bind_eq_some_iff.1 h2
  exact ⟨hc.1,hc.2,s2,s3,h1,h3,h4⟩
 ·cases h
set_option maxRecDepth 100000 in
set_option maxHeartbeats 2000000 in
theorem loopC_any {C:MC} {m:MA} {s s4 s':Lw.St} {bk at':Int} {w:World} (h:MK C m s bk at' w) (bm bn bf:Nat) (to:Int) (hbm:w.cell? ⟨bm,0,none⟩=some (.pointer (some ⟨C.g,0,none⟩))) (hbf:w.cell? ⟨bf,0,none⟩=some (.int .i64 to)) (nbm: ¬ m.mut C.g bm) (nbf: ¬ m.mut C.g bf)
  (an:Option Addr) (cn:Nat) (l:List ByteArray) (hbn:w.cell? ⟨bn,0,none⟩=some (.slice an l.length cn)) (ht:TxR w (.slice an l.length cn) l) (hX: ∀ j,ob an=some j→ ¬ m.mut C.g j) (hll:l.length≤1000000) (h1:Lw.over s bk at' l=some s4) (h2:Lw.put s4 bk at' (Cd.jmp to)=some s'):
  Calls Tryz.prog 113 #[.pointer (some ⟨bm,0,none⟩),.pointer (some ⟨bn,0,none⟩),.pointer (some ⟨bf,0,none⟩)] w fun e w'=>e= .returned (.tuple #[])∧ ∃ m',MK C m' s' bk at' w'∧MS C.g m w m' w':=by
 have CO:=hide (lOver_any h an cn l ht hX hll h1)
 have H2:=hide h2
 clear h ht hX h1 h2
 go_enter Tryz.func113,Tryz.ntmps113
 go_wp2_with fail
 refine CO.out.mono ?_
 rintro e w1 ⟨rfl,m1,hm1,hs1⟩
 have x0:=hs1.cell hbm nbm
 have x1:=hs1.cell hbf nbf
 have HS1:=hide hs1
 have CP:=hide (mput_any hm1 (Cd.jmp to) H2.out none 0 none 0 (ERn.nil _ _) (AGn.nil _ _))
 unfold IV Cd.jmp at CP
 dsimp only at CP
 clear CO hm1 hs1 H2
 go_wp2_with fail
 refine CP.out.mono ?_
 rintro e w2 ⟨rfl,m2,hm2,hs2⟩
 have HM2:=hide hm2
 have HS2:=hide (HS1.out.trans hs2)
 clear hm2 hs2 CP
 go_wp2
 refine bodyPost_end (v:= .tuple #[]) (results_none rfl _ _ _) rfl ⟨rfl,m2,HM2.out,HS2.out⟩
set_option maxRecDepth 100000 in
set_option maxHeartbeats 2000000 in
theorem eithA_any {C:MC} {m:MA} {s s4 s':Lw.St} {bk at':Int} {w:World} (h:MK C m s bk at' w) (bm bn bj:Nat) (u0:Int) (hbm:w.cell? ⟨bm,0,none⟩=some (.pointer (some ⟨C.g,0,none⟩))) (hbj:w.cell? ⟨bj,0,none⟩=some (.int .i64 u0)) (hfj:w.frozen? ⟨bj,0,none⟩=false) (nbm: ¬ m.mut C.g bm) (nbj: ¬ m.mut C.g bj) (hJ:C.J bj)
  (an:Option Addr) (cn:Nat) (l:List ByteArray) (hbn:w.cell? ⟨bn,0,none⟩=some (.slice an l.length cn)) (ht:TxR w (.slice an l.length cn) l) (hX: ∀ j,ob an=some j→ ¬ m.mut C.g j) (hll:l.length≤1000000) (h1:Lw.over s bk at' l=some s4) (h2:Lw.put s4 bk at' (Cd.jmp 0)=some s'):
  Calls Tryz.prog 111 #[.pointer (some ⟨bm,0,none⟩),.pointer (some ⟨bn,0,none⟩),.pointer (some ⟨bj,0,none⟩)] w fun e w'=>e= .returned (.tuple #[])∧w'.cell? ⟨bj,0,none⟩=some (.int .i64 s4.is.length)∧ ∃ m',MK C m' s' bk at' w'∧Kx (fun j=> ¬ m.mut C.g j∧j ≠ bj) w w'∧ ∀ j,m'.mut C.g j→m.mut C.g j∨w.heap.size≤j:=by
 have CO:=hide (lOver_any h an cn l ht hX hll h1)
 have H2:=hide h2
 have hbjl:bj<w.heap.size:=World.block_lt_of_cell? _ _ hbj
 clear h ht hX h1 h2
 go_enter Tryz.func111,Tryz.ntmps111
 go_wp2_with fail
 refine CO.out.mono ?_
 rintro e w1 ⟨rfl,m1,hm1,hs1⟩
 have x0:=hs1.cell hbm nbm
 have HS1:=hide hs1
 have CP:=hide (mput_any hm1 (Cd.jmp 0) H2.out none 0 none 0 (ERn.nil _ _) (AGn.nil _ _))
 unfold IV Cd.jmp at CP
 dsimp only at CP
 clear CO hm1 hs1 H2
 go_wp2_with fail
 refine CP.out.mono ?_
 rintro e w2 ⟨rfl,m2,hm2,hs2⟩
 have hs12:=HS1.out.trans hs2
 have y0:=hs12.cell hbj nbj
 have y1:w2.frozen? ⟨bj,0,none⟩=false:=(hs12.kx.frozen (p:=⟨bj,0,none⟩) hbjl nbj).trans hfj
 have hnm: ¬ m2.mut C.g bj:=fun e=>by
  rcases hs12.mu bj e with h3|h3
  ·exact nbj h3
  ·omega
 have HM2:=hide (hm2.far (k:=0) (u:= .int .i64 s4.is.length) hnm hJ)
 have HS2:=hide hs12
 clear hm2 hs2 CP hs12
 go_wp2
 refine bodyPost_end (v:= .tuple #[]) (results_none rfl _ _ _) rfl ⟨rfl,World.cell?_setCell_same _ _ _ y0,m2,HM2.out,(HS2.out.kx.mono (fun j _ h=>h.1)).set (.inr (fun h=>h.2 rfl)) _,HS2.out.mu⟩
set_option maxHeartbeats 400000 in
theorem eithB_any (w:World):Calls Tryz.prog 112 #[] w fun e w'=>e= .returned (.tuple #[])∧w'=w:=by
 go_enter Tryz.func112,Tryz.ntmps112
 go_wp2
 refine bodyPost_end (v:= .tuple #[]) (results_none rfl _ _ _) rfl ⟨rfl,rfl⟩
set_option maxHeartbeats 1000000 in
theorem spnC_any (a A:ByteArray) (a1:Option Addr) (n1 c1:Nat) (p2:Int) (a3:Option Addr) (n3 c3:Nat) (a4:Option Addr) (n4 c4:Nat) (x:Nat) (w:World) (hx:w.cell? ⟨x,2,none⟩=some (.string A)):
  Calls Tryz.prog 110 #[.agg #[.string a,.slice a1 n1 c1,.int .i64 p2,.slice a3 n3 c3,.slice a4 n4 c4],.pointer (some ⟨x,0,none⟩)] w fun e w'=>e= .returned (.bool (decide (a=A)))∧Below w.heap.size w w':=by
 have hb:Below w.heap.size w (w.alloc (.cells #[.string a,.slice a1 n1 c1,.int .i64 p2,.slice a3 n3 c3,.slice a4 n4 c4] 39)):=(Below.refl _ _).alloc (Nat.le_refl _) _
 have h1:=bsome hb hx
 have HB:=hide hb
 have hE:=ba_beq a A
 clear hb
 go_enter Tryz.func110,Tryz.ntmps110
 go_wp2
 go_ret
 exact ⟨by first|rfl|(rw [←hE];rfl),HB.out⟩
set_option maxRecDepth 100000 in
set_option maxHeartbeats 1000000 in
theorem idxP_any (ab:List Lw.Ab) (A:ByteArray) (K:Nat) (hK:ab.findIdx? (fun g=>decide (g.1=A))=some K) (P:Nat→Prop) (a:Option Addr) (c x:Nat) (w:World) (h:ABm w P (.slice a ab.length c) ab) (hx:w.cell? ⟨x,2,none⟩=some (.string A)):
  Calls Tryz.prog 109 #[.slice a ab.length c,.func (.func 110) #[] #[.pointer (some ⟨x,0,none⟩)]] w fun e w'=>e= .returned (.int .i64 K)∧Below w.heap.size w w':=by
 rw [List.findIdx?_eq_some_iff_getElem] at hK
 obtain ⟨hK1,hK2,hK3⟩:=hK
 have hll:ab.length≤1000000:=by obtain ⟨_,_,_,h9,_⟩:=h;exact h9
 have HV:=hide h
 have HX:=hide hx
 have HK2:Hid (ab[K].1=A):=hide (by simpa using hK2)
 have HK3:Hid (∀ j (hj:j<K),ab[j].1 ≠ A):=hide (fun j hj=>by simpa using hK3 j hj)
 clear h hx hK2 hK3
 go_enter Tryz.func109,Tryz.ntmps109
 go_wp2
 go_loopw [8] (fun iv wr=> ∃ i:Nat,i≤K∧iv= .int .i64 i∧Hid (Below w.heap.size w wr)) (fun iv _=>ab.length - (intOf iv).toNat)
 case atStart=>exact ⟨0,Nat.zero_le _,rfl,hide (Below.refl _ _)⟩
 case round=>
  obtain ⟨i,hi,rfl,HB⟩:=hrel
  have hlt:i<ab.length:=by omega
  have d1:decide ((i:Int)<(ab.length:Int))=true:=by simp;omega
  obtain ⟨y,hy⟩: ∃ y,ab[i]? =some y:=⟨_,List.getElem?_eq_getElem hlt⟩
  obtain ⟨a2,c2,e2,-,h2⟩:=HV.out.keepX (Kx.of_below (X:=fun _=>True) HB.out) (fun _ _=>trivial)
  obtain ⟨rfl,-,rfl⟩:a=a2∧True∧c=c2:=by simpa using e2
  obtain ⟨g,o,rfl,-,hc⟩:=h2 (List.ne_nil_of_mem (List.mem_of_getElem? hy))
  obtain ⟨av,cv,p1,a3,n3,c3,a4,n4,c4,x0,x1,x2,x3,x4,-,-⟩:=hc i y hy
  obtain ⟨ya,yv⟩:=y
  dsimp only at x0 x1
  have hye:ab[i].1=ya:=by have:=(List.getElem?_eq_some_iff.1 hy).2;rw [this]
  have CM:=hide (spnC_any ya A av yv.length cv p1 a3 n3 c3 a4 n4 c4 x wr (bsome HB.out HX.out))
  have hk0:(0:Int)≤(i:Int):=by omega
  have hk1:(i:Int)<(ab.length:Int):=by omega
  clear hc h2 e2 hy
  by_cases he:i=K
  ·subst he
   have he':decide (ya=A)=true:=by rw [←hye,HK2.out];simp
   rw [he'] at CM
   clear he' HK2 HK3 hye
   go_wp2_with fail
   refine CM.out.mono ?_
   rintro e w1 ⟨rfl,hb1⟩
   have HB1:=hide (btrans HB.out hb1)
   clear hb1
   go_wp2
   go_ret
   exact ⟨rfl,HB1.out⟩
  ·have he':decide (ya=A)=false:=by rw [←hye];simpa using HK3.out i (by omega)
   rw [he'] at CM
   have hiK:i<K:=by omega
   clear he' HK2 HK3 hye
   go_wp2_with fail
   refine CM.out.mono ?_
   rintro e w1 ⟨rfl,hb1⟩
   have HB1:=hide (btrans HB.out hb1)
   clear hb1
   go_wp2
   go_roundw
   case rel=>exact ⟨i+1,by omega,by go_num,HB1⟩
   case measure=>simp [intOf];omega
end Go.Proofs.YtcdcoiobpbdmpaaGreatDoor
