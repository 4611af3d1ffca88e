import Derived.Test.YtagblibbngmbdaaGreatDoorMae
set_option maxRecDepth 100000
set_option maxHeartbeats 2000000
namespace Go.Proofs.YtagblibbngmbdaaGreatDoor
open Go.RowKit
theorem zls (f:Nat) (c:Cx) (w:World) (n:Nat) (s:Sx.St) (h:RD c w n s) (h40: ¬ Sx.txt (c.full.drop n)=[40]) (h45: ¬ Sx.txt (c.full.drop n)=[45]) (ht:Sx.hasKind 3 (c.full.drop n)=true):
  Calls Tryz.prog 204 #[.pointer (some ⟨c.rb,0,none⟩)] w (Post c [c.rb] w (fun w'=>EV w' (fun b=>w.heap.size≤b)) (Sx.pe c.e (f+1) 3 Sx.d0 s (c.full.drop n))):=by
 rw [Sx.pe_u _ _ _ _ _ _ (.inl rfl),if_neg h40,if_neg h45,if_pos ht]
 have HT:=hide ht
 have H40:=hide h40
 have H45:=hide h45
 have HH:=hide h
 have HB:=hide h.lt
 have hr:=h.rlt
 clear h ht h40 h45
 go_enter Tryz.func204,Tryz.ntmps204
 go_wp2_with fail
 refine (zan ⟨#[40]⟩ H40.out (by exact HH.out.alloc _)).mono ?_
 rintro e w1 ⟨rfl,k0,rfl⟩
 go_wp2_with fail
 refine (zan ⟨#[45]⟩ H45.out (by exact (HH.out.alloc _).drewN k0)).mono ?_
 rintro e w1 ⟨rfl,k1,rfl⟩
 go_wp2_with fail
 refine (zbz 3 c _ n s (by exact (HH.out.alloc _).drewN _)).mono ?_
 rintro e w1 ⟨rfl,k2,rfl⟩
 rw [HT.out]
 go_wp2_with fail
 refine (zfg c _ n s (by exact (HH.out.alloc _).drewN _)).mono ?_
 intro e w2 hp
 rcases hm:Sx.numOf c.e s (c.full.drop n) with ⟨x,s2,r2⟩|⟨code,p,rest⟩
 ·rw [hm] at hp
  obtain ⟨v,n2,rfl,hv,hr2,hd2,hk2⟩:=hp
  obtain ⟨t,ht,hs2,-,-⟩:=Sx.numOf_ok hm
  unfold encN at hv
  rw [hv]
  have hpt:s2.parts+1+(c.full.length - n2)≤12000:=by
   have h2:=HH.out.b6
   have h3:=congrArg List.length ht
   rw [hr2] at h3
   simp only [List.length_drop,List.length_cons] at h3
   rw [hs2]
   omega
  have hn0:w.heap.size ∉ [c.rb]:=by simp;omega
  have HZ:=hide (((X4.new w (.int .i64 0) (.string ⟨#[]⟩) (.int .i64 0) (.slice none 0 0) 49).keep ((Kp.refl [] _).drewN _) (by simp)).keep hk2 hn0)
  have HM:=hide hm
  have HR2:=hide hr2
  have HD2:=hide hd2
  have HK2:=hide hk2
  clear hm hr2 hd2 hk2 hs2 hv ht
  go_wp2_with fail
  refine (zb4 1 ⟨#[]⟩ x none 0 0 c _ n2 s2 HD2.out hpt).mono ?_
  rintro e w4 ⟨rfl,hd4,hk4⟩
  obtain ⟨y0,y1,y2,y3,gy⟩:=HZ.out.keep hk4 hn0
  have HD4:=hide hd4
  have HK4:=hide hk4
  clear hd4 hk4
  go_wp2
  refine bodyPost_ret (v:= .agg #[.int .i64 1,.string ⟨#[]⟩,.int .i64 x,.slice none 0 0]) (by simp [results,Tryz.results204,go_sem,y0,y1,y2,y3]) rfl ?_
  rw [HM.out]
  show Post c [c.rb] w _ (.inl (Sx.tE 1 [] x [],s2.part,r2)) _ _
  rw [HR2.out]
  exact zbj HB.out (((((Kp.refl _ _).alloc _).drewN _).trans HK2.out).trans HK4.out) HD4.out (EV.leaf _ _ 1 [] x)
 ·rw [hm] at hp
  obtain ⟨rfl,hk2⟩:=hp
  refine ⟨rfl,?_⟩
  rw [hm]
  exact ⟨rfl,(((Kp.refl _ _).alloc _).drewN _).trans hk2⟩
theorem zkb (f:Nat) (c:Cx) (w:World) (n:Nat) (s:Sx.St) (h:RD c w n s) (h40: ¬ Sx.txt (c.full.drop n)=[40]) (h45: ¬ Sx.txt (c.full.drop n)=[45]) (ht:Sx.hasKind 3 (c.full.drop n)=false):
  Calls Tryz.prog 204 #[.pointer (some ⟨c.rb,0,none⟩)] w (Post c [c.rb] w (fun w'=>EV w' (fun b=>w.heap.size≤b)) (Sx.pe c.e (f+1) 3 Sx.d0 s (c.full.drop n))):=by
 rw [Sx.pe_u _ _ _ _ _ _ (.inl rfl),if_neg h40,if_neg h45,if_neg (by rw [ht];simp)]
 have HT:=hide ht
 have H40:=hide h40
 have H45:=hide h45
 have HH:=hide h
 have HB:=hide h.lt
 have hr:=h.rlt
 clear h ht h40 h45
 go_enter Tryz.func204,Tryz.ntmps204
 go_wp2_with fail
 refine (zan ⟨#[40]⟩ H40.out (by exact HH.out.alloc _)).mono ?_
 rintro e w1 ⟨rfl,k0,rfl⟩
 go_wp2_with fail
 refine (zan ⟨#[45]⟩ H45.out (by exact (HH.out.alloc _).drewN k0)).mono ?_
 rintro e w1 ⟨rfl,k1,rfl⟩
 go_wp2_with fail
 refine (zbz 3 c _ n s (by exact (HH.out.alloc _).drewN _)).mono ?_
 rintro e w1 ⟨rfl,k2,rfl⟩
 rw [HT.out]
 go_wp2_with fail
 refine (zay c _ n s (by exact (HH.out.alloc _).drewN _)).mono ?_
 intro e w2 hp
 rcases hm:Sx.nameOf c.e s (c.full.drop n) with ⟨x,s2,r2⟩|⟨code,p,rest⟩
 ·rw [hm] at hp
  obtain ⟨v,n2,rfl,hv,hr2,hd2,hk2⟩:=hp
  obtain ⟨t,ht,hs2,-,-⟩:=Sx.nameOf_ok hm
  unfold encT at hv
  rw [hv]
  have hpt:s2.parts+1+(c.full.length - n2)≤12000:=by
   have h2:=HH.out.b6
   have h3:=congrArg List.length ht
   rw [hr2] at h3
   simp only [List.length_drop,List.length_cons] at h3
   rw [hs2]
   omega
  have hn0:w.heap.size ∉ [c.rb]:=by simp;omega
  have HZ:=hide (((X4.new w (.int .i64 0) (.string ⟨#[]⟩) (.int .i64 0) (.slice none 0 0) 49).keep ((Kp.refl [] _).drewN _) (by simp)).keep hk2 hn0)
  have HM:=hide hm
  have HR2:=hide hr2
  have HD2:=hide hd2
  have HK2:=hide hk2
  clear hm hr2 hd2 hk2 hs2 hv ht
  generalize hbx:bs x=bx at *
  have HBX:=hide hbx
  clear hbx
  go_wp2_with fail
  refine (zb4 2 bx 0 none 0 0 c _ n2 s2 HD2.out hpt).mono ?_
  rintro e w4 ⟨rfl,hd4,hk4⟩
  obtain ⟨y0,y1,y2,y3,gy⟩:=HZ.out.keep hk4 hn0
  have HD4:=hide hd4
  have HK4:=hide hk4
  clear hd4 hk4
  go_wp2
  refine bodyPost_ret (v:= .agg #[.int .i64 2,.string bx,.int .i64 0,.slice none 0 0]) (by simp [results,Tryz.results204,go_sem,y0,y1,y2,y3]) rfl ?_
  rw [HM.out]
  show Post c [c.rb] w _ (.inl (Sx.tE 2 x 0 [],s2.part,r2)) _ _
  rw [HR2.out]
  refine zbj HB.out (((((Kp.refl _ _).alloc _).drewN _).trans HK2.out).trans HK4.out) HD4.out ?_
  rw [←HBX.out]
  exact EV.leaf _ _ 2 x 0
 ·rw [hm] at hp
  obtain ⟨rfl,hk2⟩:=hp
  refine ⟨rfl,?_⟩
  rw [hm]
  exact ⟨rfl,(((Kp.refl _ _).alloc _).drewN _).trans hk2⟩
theorem zkc (f:Nat) (h0:Cn f 0 173) (h3:Cn f 3 204):Cn (f+1) 3 204:=by
 intro c w n s h hf
 by_cases h40:Sx.txt (c.full.drop n)=[40]
 ·exact zlq f h0 c w n s h h40 hf
 ·by_cases h45:Sx.txt (c.full.drop n)=[45]
  ·exact zlr f h3 c w n s h h40 h45 hf
  ·cases hk:Sx.hasKind 3 (c.full.drop n) with
   |true=>exact zls f c w n s h h40 h45 hk
   |false=>exact zkb f c w n s h h40 h45 hk
end Go.Proofs.YtagblibbngmbdaaGreatDoor
namespace Go.Proofs.YtagblibbngmbdaaGreatDoor
open Go.RowKit
def zcj (c:Cx) (w:World):Nat:=(intOf ((w.cell? ⟨c.rb,1,none⟩).getD (.int .i64 0))).toNat
theorem RD.nx {c:Cx} {w:World} {n:Nat} {s:Sx.St} (h:RD c w n s):zcj c w=n:=by
 unfold zcj
 rw [h.c1]
 simp [intOf]
structure LX (w0 wr:World) (c:Cx) (vb:Nat) (n:Nat) (s:Sx.St) (y:Sx.Tr) (op k:Int) (nm:ByteArray) (a:Option Addr) (len cap:Nat):Prop where
 rd:RD c wr n s
 x:X4 wr vb (.int .i64 op) (.string nm) (.int .i64 k) (.slice a len cap)
 z:X4 wr w0.heap.size (.int .i64 0) (.string ⟨#[]⟩) (.int .i64 0) (.slice none 0 0)
 v:EV wr (fun b=>w0.heap.size+1≤b∧b ≠ vb) y (.agg #[.int .i64 op,.string nm,.int .i64 k,.slice a len cap])
 kp:Kp [c.rb] w0 wr
 vlt:w0.heap.size<vb
 blw:c.below w0.heap.size
theorem LX.start {w0 w1:World} {c:Cx} {n:Nat} {s:Sx.St} {y:Sx.Tr} {op k:Int} {nm:ByteArray} {a:Option Addr} {len cap:Nat} (hb:c.below w0.heap.size) (hlt:w0.heap.size<w1.heap.size) (hk:Kp [c.rb] w0 w1) (hd:RD c w1 n s)
  (hz:X4 w1 w0.heap.size (.int .i64 0) (.string ⟨#[]⟩) (.int .i64 0) (.slice none 0 0)) (hv:EV w1 (fun b=>w0.heap.size+1≤b) y (.agg #[.int .i64 op,.string nm,.int .i64 k,.slice a len cap])) (t:TypeId):
  LX w0 (w1.alloc (.cells #[.int .i64 op,.string nm,.int .i64 k,.slice a len cap] t)) c w1.heap.size n s y op k nm a len cap:=
 ⟨hd.alloc _,X4.new _ _ _ _ _ _,hz.keep ((Kp.refl [] _).alloc _) (by simp),(hv.base (P':=fun b=>w0.heap.size+1≤b∧b ≠ w1.heap.size) (fun b h1 h2=>⟨h2,by omega⟩)).keep ((Kp.refl [] _).alloc _) (by simp),hk.alloc _,hlt,hb⟩
theorem LX.set {w0 wr w2:World} {c:Cx} {vb n n2:Nat} {s s2:Sx.St} {y z:Sx.Tr} {op k op2 k2:Int} {nm nm2:ByteArray} {a a2:Option Addr} {len cap len2 cap2:Nat} (h:LX w0 wr c vb n s y op k nm a len cap) (hk:Kp [c.rb] wr w2) (hd:RD c w2 n2 s2)
  (hv:EV w2 (fun b=>w0.heap.size+1≤b∧b ≠ vb) z (.agg #[.int .i64 op2,.string nm2,.int .i64 k2,.slice a2 len2 cap2])):
  LX w0 ((((w2.setCell ⟨vb,0,none⟩ (.int .i64 op2)).setCell ⟨vb,1,none⟩ (.string nm2)).setCell ⟨vb,2,none⟩ (.int .i64 k2)).setCell ⟨vb,3,none⟩ (.slice a2 len2 cap2)) c vb n2 s2 z op2 k2 nm2 a2 len2 cap2:=by
 have hvb:vb ≠ c.rb:=by have:=h.vlt;have:=h.blw.1;omega
 have hx:=h.x.keep hk (by simpa using hvb)
 have hz:=h.z.keep hk (by have:=h.blw.1;simp;omega)
 have hkv:Kp [vb] w2 ((((w2.setCell ⟨vb,0,none⟩ (.int .i64 op2)).setCell ⟨vb,1,none⟩ (.string nm2)).setCell ⟨vb,2,none⟩ (.int .i64 k2)).setCell ⟨vb,3,none⟩ (.slice a2 len2 cap2)):=Kp.rb (Kp.rb (Kp.rb (Kp.rb (Kp.refl _ _) _ _) _ _) _ _) _ _
 refine ⟨hd.keep hkv (by simpa using hvb.symm) (fun hne=>by have:=h.blw.2 hne;have:=h.vlt;simp;omega),⟨?_,?_,?_,?_,fun o=>by simpa using hx.fz o⟩,hz.keep hkv (by have:=h.vlt;simp;omega),hv.keep hkv (by simp),?_,h.vlt,h.blw⟩
 ·simp [go_sem,hx.c0]
 ·simp [go_sem,hx.c1]
 ·simp [go_sem,hx.c2]
 ·simp [go_sem,hx.c3]
 ·have hle:w0.heap.size≤vb:=Nat.le_of_lt h.vlt
  exact Kp.nb (Kp.nb (Kp.nb (Kp.nb (h.kp.trans hk) hle _ _) hle _ _) hle _ _) hle _ _
theorem LX.drewN {w0 wr:World} {c:Cx} {vb n:Nat} {s:Sx.St} {y:Sx.Tr} {op k:Int} {nm:ByteArray} {a:Option Addr} {len cap:Nat} (h:LX w0 wr c vb n s y op k nm a len cap) (m:Nat):LX w0 (wr.drewN m) c vb n s y op k nm a len cap:=
 ⟨h.rd.drewN m,h.x.keep ((Kp.refl [] _).drewN m) (by simp),h.z.keep ((Kp.refl [] _).drewN m) (by simp),h.v.keep ((Kp.refl [] _).drewN m) (by simp),h.kp.drewN m,h.vlt,h.blw⟩
theorem zb0 {c:Cx} {n:Nat} {s:Sx.St} {w:World} {f g:Nat} {b:UInt8} {l:List UInt8} (h:RD c w n s) (ht:Sx.txt (c.full.drop n)=b::l) (y:Sx.Tr) (s1:Sx.St) (r1:List Tk.Tok)
  (hm:Sx.pe c.e f g Sx.d0 s (c.full.drop (n+1))= .inl (y,s1,r1)):s1.parts+1+r1.length≤12000:=by
 have k:=(Sx.pe_keeps _ _ _ _ _ _ _ _ _ hm).parts
 have h1:=Sx.txt_len ht
 have h2:=h.b6
 simp only [List.tail_drop,List.length_drop] at h1 k
 omega
theorem zgx {c:Cx} {n n2:Nat} {f g:Nat} {op:Int} {x z:Sx.Tr} {s s2:Sx.St} (hlt:n<c.full.length) (hm:Sx.join op x (Sx.pe c.e f g Sx.d0 s (c.full.drop (n+1)))= .inl (z,s2,c.full.drop n2)) (hn2:n2≤c.full.length):n<n2:=by
 obtain ⟨y,s1,h1,_,_⟩:=Sx.join_ok hm
 have k:=(Sx.pe_keeps _ _ _ _ _ _ _ _ _ h1).len
 simp only [List.length_drop] at k
 omega
theorem zfq (f:Nat) (hU: ∀ f',f'≤f→Cn f' 3 204):Cn (f+1) 2 198:=by
 intro c w n s h hf
 rw [Sx.pe_2] at hf ⊢
 have HF:=hide hf
 have HH:=hide h
 have HB:=hide h.lt
 have HU:=hide hU
 have hr:=h.rlt
 clear h hf hU
 go_enter Tryz.func198,Tryz.ntmps198
 go_wp2_with fail
 refine (HU.out f (Nat.le_refl _) c _ n s (by exact HH.out.alloc _) (Dry.bnd HF.out)).mono ?_
 intro e w1 hp
 rcases hm:Sx.pe c.e f 3 Sx.d0 s (c.full.drop n) with ⟨x,s1,r1⟩|⟨code,p,rest⟩
 ·rw [hm] at hp
  obtain ⟨v,n1,rfl,hv,hr1,hd1,hk1⟩:=hp
  obtain ⟨f1,op1,nm1,k1,L1,a1,len1,cap1,hl1,hx1,rfl,hE1⟩:=hv.open
  have HM:=hide hm
  have HR1:=hide hr1
  have HD1:=hide hd1
  have HK1:=hide hk1
  have HV1:=hide hv
  have HF1:Hid (¬ Dry (Sx.pe c.e f 5 x s1 (c.full.drop n1))):=by
   have:=Dry.next HF.out hm
   rwa [hr1] at this
  have hn0:w.heap.size ∉ [c.rb]:=by simp;omega
  have hz1:w.heap.size<w1.heap.size:=by have:=hk1.size;simp at this;omega
  have HS:=hide (LX.start (t:=49) HB.out hz1 (((Kp.refl _ _).alloc _).trans hk1) hd1 ((X4.new _ _ _ _ _ 49).keep hk1 hn0) (hv.base (P':=fun b=>w.heap.size+1≤b) (fun b _ hb=>by simp at hb;omega)))
  clear hm hr1 hd1 hk1 hv hE1 hx1 hl1
  generalize bs nm1=bn1 at *
  go_wp2_with fail
  go_loopw [] (fun wr=> ∃ (f2 n2:Nat) (y:Sx.Tr) (s2:Sx.St) (op k:Int) (nm:ByteArray) (a:Option Addr) (len cap:Nat),f2≤f∧Hid (Sx.pe c.e f 5 x s1 (c.full.drop n1)=Sx.pe c.e f2 5 y s2 (c.full.drop n2))∧LX w wr c w1.heap.size n2 s2 y op k nm a len cap) (fun wr=>c.full.length - zcj c wr)
  case atStart=>exact ⟨f,n1,x,s1,op1,k1,bn1,a1,len1,cap1,Nat.le_refl _,rfl,HS.out⟩
  case round=>
   obtain ⟨f2,n2,y,s2,op,k,nm,a,len,cap,hf2,HP,HL⟩:=hrel
   have HFr:Hid (¬ Dry (Sx.pe c.e f2 5 y s2 (c.full.drop n2))):=by rw [←HP.out];exact HF1.out
   obtain ⟨f3,rfl⟩: ∃ f3,f2=f3+1:=by
    cases f2 with
    |zero=>exact absurd ⟨_,_,rfl⟩ HFr.out
    |succ f3=>exact ⟨f3,rfl⟩
   have hxlt:=HL.x.lt
   obtain ⟨x0,x1,x2,x3,xf⟩:=HL.x
   obtain ⟨y0,y1,y2,y3,yf⟩:=HL.z
   have hvlt:=HL.vlt
   have HLL:=hide HL
   clear HL
   by_cases ht:Sx.txt (c.full.drop n2)=[42]
   ·have hlt:n2<c.full.length:=zbv ht (by simp)
    have HE:Hid (Sx.pe c.e (f3+1) 5 y s2 (c.full.drop n2)=Sx.bnd (Sx.join 6 y (Sx.pe c.e f3 3 Sx.d0 s2 (c.full.drop (n2+1)))) fun z s1 r1=>Sx.pe c.e f3 5 z s1 r1):=by
     show _=_
     rw [Sx.pe_5,if_pos ht,List.tail_drop]
    have HFj:Hid (¬ Dry (Sx.pe c.e f3 3 Sx.d0 s2 (c.full.drop (n2+1)))):=by
     have h1:=HFr.out
     rw [HE.out] at h1
     exact Dry.bnd (Dry.bnd h1)
    have HT:=hide ht
    clear ht
    go_wp2_with fail
    refine (zal ⟨#[42]⟩ HT.out HLL.out.rd).mono ?_
    rintro e w2 ⟨rfl,kk,rfl⟩
    go_wp2_with fail
    refine (zgw 6 y _ (fun b=>w.heap.size+1≤b∧b ≠ w1.heap.size) c _ n2 s2 (by exact HLL.out.rd.drewN _) hlt (fun b hb=>by simp at hb;exact ⟨by omega,by omega⟩) (by simp;omega) (by exact (HLL.out.drewN _).v) _
     (fun w' hw'=>HU.out f3 (by omega) c w' (n2+1) s2 hw' HFj.out) (fun y' s1' r1' hm'=>zb0 HLL.out.rd HT.out y' s1' r1' hm')).mono ?_
    intro e w3 hp
    rcases hm:Sx.join 6 y (Sx.pe c.e f3 3 Sx.d0 s2 (c.full.drop (n2+1))) with ⟨z,s4,r4⟩|⟨code,p,rest⟩
    ·rw [hm] at hp
     obtain ⟨v4,n4,rfl,hv4,hr4,hd4,hk4⟩:=hp
     rw [hr4] at hm
     have hfur:=zgx hlt hm hd4.hn
     obtain ⟨f4,op4,nm4,k4,L4,a4,len4,cap4,hl4,hx4,rfl,hE4⟩:=hv4.open
     have HS4:=hide (LX.set (HLL.out.drewN kk) hk4 hd4 hv4)
     have HM4:=hide hm
     have hn4:=hd4.hn
     have hcc:w1.heap.size ∉ [c.rb]:=by have:=HB.out.1;simp;omega
     obtain ⟨X0,X1,X2,X3,XF⟩:=(HLL.out.drewN kk).x.keep hk4 hcc
     clear hm hr4 hd4 hk4 hv4 hE4 hx4 hl4 x0 x1 x2 x3 xf y0 y1 y2 y3 yf
     generalize bs nm4=bn4 at *
     go_wp2
     go_roundw
     case rel=>
      refine ⟨f3,n4,z,s4,op4,k4,bn4,a4,len4,cap4,by omega,?_,HS4.out⟩
      show _=_
      rw [HP.out,HE.out,HM4.out]
      rfl
     case measure=>
      rw [HS4.out.rd.nx,HLL.out.rd.nx]
      omega
    ·rw [hm] at hp
     obtain ⟨rfl,hk4⟩:=hp
     refine ⟨rfl,?_⟩
     rw [HM.out]
     show Post c [c.rb] w _ (Sx.pe c.e f 5 x s1 r1) _ _
     rw [HR1.out,HP.out,HE.out,hm]
     exact ⟨rfl,(HLL.out.kp.drewN _).trans hk4⟩
   ·have HE:Hid (Sx.pe c.e (f3+1) 5 y s2 (c.full.drop n2)= .inl (y,s2,c.full.drop n2)):=by
     show _=_
     rw [Sx.pe_5,if_neg ht]
    have HT:=hide ht
    clear ht
    go_wp2_with fail
    refine (zan ⟨#[42]⟩ HT.out HLL.out.rd).mono ?_
    rintro e w2 ⟨rfl,kk,rfl⟩
    go_wp2
    refine bodyPost_ret (v:= .agg #[.int .i64 op,.string nm,.int .i64 k,.slice a len cap]) (by simp [results,Tryz.results198,go_sem,y0,y1,y2,y3]) rfl ?_
    rw [HM.out]
    show Post c [c.rb] w _ (Sx.pe c.e f 5 x s1 r1) _ _
    rw [HR1.out,HP.out,HE.out]
    exact zbj HB.out (HLL.out.drewN kk).kp (HLL.out.drewN kk).rd ((HLL.out.drewN kk).v.base (fun b _ hb=>hb.1))
 ·rw [hm] at hp
  obtain ⟨rfl,hk1⟩:=hp
  refine ⟨rfl,?_⟩
  rw [hm]
  exact ⟨rfl,((Kp.refl _ _).alloc _).trans hk1⟩
end Go.Proofs.YtagblibbngmbdaaGreatDoor
