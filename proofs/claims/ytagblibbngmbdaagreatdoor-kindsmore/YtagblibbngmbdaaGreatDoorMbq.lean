import Derived.Test.YtagblibbngmbdaaGreatDoorMar
import Derived.Defers
import Derived.Recover
set_option maxRecDepth 100000
set_option maxHeartbeats 4000000
namespace Go.Proofs.YtagblibbngmbdaaGreatDoor
open Go.RowKit
def encP (w0:World) (w':World) (l:List Sx.Tr) (v:Value):Prop:= ∃ m a cap,v= .agg #[.slice a l.length cap]∧Sl (RG w' (fun b=>w0.heap.size≤b) m) w' (fun b=>w0.heap.size≤b) l (.slice a l.length cap)
structure X1 (w:World) (b:Nat) (v:Value):Prop where
 c0:w.cell? ⟨b,0,none⟩=some v
 fz: ∀ o,w.frozen? ⟨b,o,none⟩=false
theorem X1.keep {w w':World} {S:List Nat} {b:Nat} {v:Value} (h:X1 w b v) (k:Kp S w w') (hn:b ∉ S):X1 w' b v:=
 ⟨k.some h.c0 hn,fun o=>(k.frozen (p:=⟨b,o,none⟩) (World.block_lt_of_cell? w ⟨b,0,none⟩ h.c0) hn).trans (h.fz o)⟩
theorem X1.new (w:World) (v:Value) (t:TypeId):X1 (w.alloc (.cells #[v] t)) w.heap.size v:=⟨by simp [go_sem],fun o=>by simp [go_sem]⟩
theorem zny (w:World) (B:Nat) (a b c d:Value) (t:TypeId) (hB:B≤w.heap.size):(w.alloc (.cells #[a,b,c,d] t)).ownsRow B t 4 (.slice (some ⟨w.heap.size,0,none⟩) 1 1) 1 [a,b,c,d]:=
 ⟨rfl,.inr ⟨w.heap.size,1,#[a,b,c,d],rfl,hB,heap_alloc_new w _,Nat.le_refl _,by decide,rfl,rfl⟩⟩
theorem zk0 (e f k:Nat) (acc:List Sx.Tr) (s:Sx.St) (ts:List Tk.Tok):Sx.stages e f (k+1) acc s ts=if ts.isEmpty then .inl (acc,s,ts) else if acc.length=10∧Sx.txt ts=Sx.wStage then Sx.bad 8 e ts else Sx.bnd (Sx.stage e f s ts) fun x s r=>Sx.stages e f k (acc++[x]) s r:=rfl
theorem zg9 (f q:Nat) (hB:CB f) (c:Cx) (w:World) (n:Nat) (s:Sx.St) (h:RD c w n s) (m0:Sx.Rs (List Sx.Tr)) (hm0:m0=Sx.bnd (Sx.stage c.e f s (c.full.drop n)) fun x s r=>Sx.stages c.e f q [x] s r) (hf: ¬ Dry m0):
  Calls Tryz.prog 52 #[.pointer (some ⟨c.rb,0,none⟩)] w (Post c [c.rb] w (encP w) m0):=by
 obtain ⟨i0,hi0,hz0,hz1,hz2⟩:=info_parts Tryz.infoStage
 have HF:=hide hf
 have HM0:=hide hm0
 have HH:=hide h
 have HB:=hide h.lt
 have HCB:=hide hB
 have hr:=h.rlt
 have HFs:Hid (¬ Dry (Sx.stage c.e f s (c.full.drop n))):=by
  have h1:=hf
  rw [hm0] at h1
  exact Dry.bnd h1
 clear h hf hB hm0
 go_enter Tryz.func52,Tryz.ntmps52
 go_wp2_with fail
 refine (zdf f HCB.out c _ n s (by exact HH.out.alloc _) HFs.out).mono ?_
 intro e w1 hp
 rcases hm1:Sx.stage c.e f s (c.full.drop n) with ⟨x,s1,r1⟩|⟨code,p,rest⟩
 rotate_left
 ·rw [hm1] at hp
  obtain ⟨rfl,hk⟩:=hp
  refine ⟨rfl,?_⟩
  rw [HM0.out,hm1]
  exact ⟨rfl,((Kp.refl _ _).alloc _).trans hk⟩
 rw [hm1] at hp
 obtain ⟨v1,n1,rfl,⟨m1,nm1,at1,a1,x1,y1,a2,x2,y2,hv1,hRG⟩,hr1,hd1,hk1⟩:=hp
 have HM1:Hid (m0=Sx.stages c.e f q [x] s1 (c.full.drop n1)):=by
  show _=_
  rw [HM0.out,hm1,hr1]
  rfl
 rw [hv1]
 have HRG:=hide hRG
 have HD1:=hide hd1
 have K1:Hid (Kp [c.rb] w w1):=((Kp.refl _ _).alloc _).trans hk1
 have hn0:w.heap.size ∉ [c.rb]:=by simp;omega
 have HZ1:=hide ((X1.new w (.slice none 0 0) 24).keep hk1 hn0)
 have hz:=hk1.size
 simp at hz
 clear hm1 hr1 hd1 hk1 hv1 hRG
 go_wp2
 go_loopw [3] (fun v wr=> ∃ (k n3 m:Nat) (acc:List Sx.Tr) (s3:Sx.St) (cs:List Value),Hid (m0=Sx.stages c.e f k acc s3 (c.full.drop n3))∧Hid (RD c wr n3 s3)∧Hid (Kp [c.rb] w wr)∧Hid (wr.ownsRow (w.heap.size+1) 43 4 v acc.length cs)∧
  Hid (Rw (RG wr (fun b=>w.heap.size+1≤b∧some b ≠ v.ownBlock) m) acc cs)∧acc.length≤10∧Hid (X1 wr w.heap.size (.slice none 0 0))∧Hid (∃ a cap,v= .slice a acc.length cap)) (fun _ wr=>c.full.length - zcj c wr)
 case atStart=>
  refine ⟨q,n1,m1,[x],s1,[.string nm1,.int .i64 at1,.slice a1 x1 y1,.slice a2 x2 y2],HM1.out,HD1.out.alloc _,K1.out.alloc _,zny _ _ _ _ _ _ _ (by omega),?_,by simp,HZ1.out.keep ((Kp.refl [] _).alloc _) (by simp),⟨_,_,rfl⟩⟩
  refine ⟨_,[],(List.append_nil _).symm,?_,rfl⟩
  refine (HRG.out.base (P':=fun b=>w.heap.size+1≤b∧some b ≠ some w1.heap.size) (fun b h1 h2=> ?_)).keep (S:=[]) ((Kp.refl _ _).alloc _) (by simp)
  simp at h2
  exact ⟨by omega,fun e=>by simp at e;omega⟩
 case round=>
  obtain ⟨k,n3,m,acc,s3,cs,HQ,HD,HK,HO,HR,hlen,HZ,HV⟩:=hrel
  obtain ⟨k,rfl⟩: ∃ k',k=k'+1:=by
   cases k with
   |zero=>exact absurd ⟨_,_,HQ.out⟩ HF.out
   |succ k'=>exact ⟨k',rfl⟩
  obtain ⟨av,capv,hav⟩:=HV.out
  subst hav
  have hE:=zk0 c.e f k acc s3 (c.full.drop n3)
  have hsz:=HK.out.size
  cases hov:(c.full.drop n3).isEmpty with
  |true=>
   rw [hov] at hE
   have HE:Hid (Sx.stages c.e f (k+1) acc s3 (c.full.drop n3)= .inl (acc,s3,c.full.drop n3)):=hE
   have HOV:=hide hov
   clear hE hov
   obtain ⟨z0,zf⟩:=HZ.out
   go_wp2_with fail
   refine (zcr HOV.out HD.out).mono ?_
   rintro e w4 ⟨rfl,k4,rfl⟩
   go_wp2
   refine bodyPost_ret (v:= .agg #[.slice av acc.length capv]) (by simp [results,Tryz.results52,go_sem,z0]) rfl ?_
   rw [HQ.out,HE.out]
   have kz:Kp [w.heap.size] wr ((wr.drewN k4).setCell ⟨w.heap.size,0,none⟩ (.slice av acc.length capv)):=Kp.rb ((Kp.refl _ _).drewN _) _ _
   refine ⟨_,n3,rfl,⟨m,av,capv,rfl,?_⟩,rfl,HD.out.keep kz (by simp;omega) (fun hne=>by have:=HB.out.2 hne;simp;omega),Kp.new ((HK.out.mono (by simp)).trans (kz.mono (S':=[w.heap.size,c.rb]) (by simp))) (Nat.le_refl _)⟩
   refine Sl.of_own (B:=w.heap.size+1) (zam HO.out kz (by simp)) rfl (fun b hb=>by omega) ?_
   exact HR.out.mono (fun d cc hd=>(hd.keep kz (fun k hk hP=>by simp at hk;omega)).base (fun b _ hb=>by omega))
  |false=>
   rw [hov] at hE
   have HOV:=hide hov
   by_cases hst:acc.length=10∧Sx.txt (c.full.drop n3)=Sx.wStage
   ·rw [if_neg (by simp),if_pos hst] at hE
    have HE:Hid (Sx.stages c.e f (k+1) acc s3 (c.full.drop n3)= .inr (8,Sx.place c.e (c.full.drop n3),c.full.drop n3)):=hE
    obtain ⟨h10,hT⟩:=hst
    have HT:=hide hT
    have d10:((acc.length:Int) == 10)=true:=by simp;omega
    clear hE hov hT h10
    go_wp2_with fail
    refine (zcr HOV.out HD.out).mono ?_
    rintro e w4 ⟨rfl,k4,rfl⟩
    go_wp2_with fail
    refine (zal ⟨#[115,116,97,103,101]⟩ HT.out (by exact HD.out.drewN _)).mono ?_
    rintro e w4 ⟨rfl,k5,rfl⟩
    go_wp2_with fail
    refine (za9 8 c _ n3 s3 (by exact HD.out.drewN _)).mono ?_
    rintro e w5 ⟨rfl,hb⟩
    go_wp2
    rw [HQ.out,HE.out]
    exact ⟨rfl,rfl,(HK.out.drewN _).trans (Kp.of_below hb)⟩
   ·rw [if_neg (by simp),if_neg hst] at hE
    have HE:=hide hE
    have HFs3:Hid (¬ Dry (Sx.stage c.e f s3 (c.full.drop n3))):=by
     have h1:=HF.out
     rw [HQ.out,hE] at h1
     exact Dry.bnd h1
    have HNL:Hid (∀ x s' r,Sx.stage c.e f s3 (c.full.drop n3)= .inl (x,s',r)→acc.length ≠ 10):=by
     intro x s' r hx h10
     obtain ⟨u,s4,r4,h4,_⟩:=Sx.bnd_ok hx
     exact hst ⟨h10,(Sx.skp_ok h4).1⟩
    have HSplit:Hid (acc.length ≠ 10∨(acc.length=10∧ ¬ Sx.txt (c.full.drop n3)=Sx.wStage)):=by
     by_cases h10:acc.length=10
     ·exact .inr ⟨h10,fun h=>hst ⟨h10,h⟩⟩
     ·exact .inl h10
    clear hE hov hst
    have key: ∀ (K:Act→World→Prop),True:=fun _=>trivial
    clear key
    rcases HSplit.out with h10|⟨h10,hT⟩
    ·have d10:((acc.length:Int) == 10)=false:=by simp;omega
     go_wp2_with fail
     refine (zcr HOV.out HD.out).mono ?_
     rintro e w4 ⟨rfl,k4,rfl⟩
     go_wp2_with fail
     refine (zdf f HCB.out c _ n3 s3 (by exact HD.out.drewN _) HFs3.out).mono ?_
     intro e w5 hp
     rcases hm5:Sx.stage c.e f s3 (c.full.drop n3) with ⟨d,s5,r5⟩|⟨code,p,rest⟩
     rotate_left
     ·rw [hm5] at hp
      obtain ⟨rfl,hk⟩:=hp
      refine ⟨rfl,?_⟩
      rw [HQ.out,HE.out,hm5]
      exact ⟨rfl,(HK.out.drewN _).trans hk⟩
     rw [hm5] at hp
     obtain ⟨v5,n5,rfl,⟨m5,nm5,at5,a5,x5,y5,a6,x6,y6,hv5,hRG5⟩,hr5,hd5,hk5⟩:=hp
     have hlt5:=(Sx.stage_keeps _ _ _ _ _ _ _ hm5).2
     rw [hr5] at hlt5
     simp only [List.length_drop] at hlt5
     have hE5:Hid (m0=Sx.stages c.e f k (acc++[d]) s5 (c.full.drop n5)):=by
      show _=_
      rw [HQ.out,HE.out,hm5,hr5]
      rfl
     rw [hv5]
     have HD5:=hide hd5
     have K5:Hid (Kp [c.rb] wr w5):=((Kp.refl _ _).drewN _).trans hk5
     have HO5:=hide (zam HO.out K5.out (by simp;omega))
     have HR5:=hide (HR.out.mono (fun d cc hd=>hd.keep K5.out (by simp;omega)))
     have HRG5:=hide hRG5
     have HOL:=hide (zb8 HO.out)
     have HZ5:=hide (HZ.out.keep K5.out hn0)
     have hsz5:=hk5.size
     simp at hsz5
     clear hm5 hr5 hd5 hk5 hv5 hRG5
     go_wp2_with (at_builtin;refine wpList_append_lies _ rfl _ _ 22 rfl (w.heap.size+1) 43 i0 (.agg #[.string ⟨#[]⟩,.int .i64 0,.slice none 0 0,.slice none 0 0]) 4 72 Tryz.underlying22 hi0 hz0 hz1 hz2 rfl (by decide) _ _ _ rfl (by exact HO5.out.alloc _) ⟨w5.heap.size,0,none⟩ 1 1 [.string nm5,.int .i64 at5,.slice a5 x5 y5,.slice a6 x6 y6] rfl rfl ?c1 ?c2 ?c3 ?c4 ?c5 ?c6 _ rfl ?_)
     case c1=>exact zap _ _ rfl _ _ _ _ _
     case c2=>intro u hu;simp at hu;rcases hu with rfl|rfl|rfl|rfl<;> rfl
     case c3=>decide
     case c4=>unfold maxLen;omega
     case c5=>omega
     case c6=>simp;omega
     ·intro g cap w6 hown hgrow hat hlt
      have hblk:=zau HO5.out
      have hR:Rw (RG (w5.alloc (.cells #[.string nm5,.int .i64 at5,.slice a5 x5 y5,.slice a6 x6 y6] 43)) (fun b=>w.heap.size+1≤b∧some b ≠ Value.ownBlock (.slice av acc.length capv)) (m+m5)) (acc++[d]) (cs++[.string nm5,.int .i64 at5,.slice a5 x5 y5,.slice a6 x6 y6]):=by
       refine Rw.snoc (HR5.out.mono (fun d cc hd=>(hd.keep (S:=[]) ((Kp.refl _ _).alloc _) (by simp)).more m5)) ?_
       rw [Nat.add_comm m m5]
       refine ((HRG5.out.base (P':=fun b=>w.heap.size+1≤b∧some b ≠ Value.ownBlock (.slice av acc.length capv)) (fun b _ hb=> ?_)).keep (S:=[]) ((Kp.refl _ _).alloc _) (by simp)).more m
       simp at hb
       have hlt0:=World.block_lt_of_cell? wr ⟨w.heap.size,0,none⟩ HZ.out.c0
       exact ⟨by simp at hlt0;omega,fun e=>by have:=HOL.out b e;omega⟩
      have HR6:=hide (za1 (R:=fun w P d c=>RG w P (m+m5) d c) (fun w w' S P d c h hk hS=>h.keep hk hS) (fun w P P' d c h hP=>h.base hP) hR hgrow (by simpa using hat))
      have HO6:Hid (w6.ownsRow (w.heap.size+1) 43 4 (.slice (some ⟨g,0,none⟩) (acc.length+1) cap) (acc++[d]).length (cs++[.string nm5,.int .i64 at5,.slice a5 x5 y5,.slice a6 x6 y6])):=by
       rw [List.length_append]
       exact hown
      have HD6:=hide ((HD5.out.alloc (.cells #[.string nm5,.int .i64 at5,.slice a5 x5 y5,.slice a6 x6 y6] 43)).grown hgrow hblk ⟨by omega,fun hne=>by have:=HB.out.2 hne;omega⟩)
      have HK6:=hide ((((HK.out.trans K5.out).alloc (.cells #[.string nm5,.int .i64 at5,.slice a5 x5 y5,.slice a6 x6 y6] 43)).grown hgrow (fun k hk=> .inl (by have:=hblk k (by rw [hk];simp);omega))))
      have HZ6:=hide ((HZ5.out.keep (S:=[]) ((Kp.refl _ _).alloc (.cells #[.string nm5,.int .i64 at5,.slice a5 x5 y5,.slice a6 x6 y6] 43)) (by simp)).keep (Kp.of_grown hgrow) (fun hm=>by have:=hblk _ hm;omega))
      clear hR hown hgrow hat
      go_wp2
      refine ⟨⟨k,n5,m+m5,acc++[d],s5,_,hE5.out,HD6.out,HK6.out,HO6.out,HR6.out,by simp;omega,HZ6.out,⟨some ⟨g,0,none⟩,cap,by simp⟩⟩,?_⟩
      rw [HD6.out.nx,HD.out.nx]
      have h1:=HD6.out.hn
      omega
    ·have d10:((acc.length:Int) == 10)=true:=by simp;omega
     have HT:=hide hT
     clear hT
     go_wp2_with fail
     refine (zcr HOV.out HD.out).mono ?_
     rintro e w4 ⟨rfl,k4,rfl⟩
     go_wp2_with fail
     refine (zan ⟨#[115,116,97,103,101]⟩ HT.out (by exact HD.out.drewN _)).mono ?_
     rintro e w4 ⟨rfl,k5,rfl⟩
     go_wp2_with fail
     refine (zdf f HCB.out c _ n3 s3 (by exact HD.out.drewN _) HFs3.out).mono ?_
     intro e w5 hp
     rcases hm5:Sx.stage c.e f s3 (c.full.drop n3) with ⟨d,s5,r5⟩|⟨code,p,rest⟩
     ·exact absurd h10 (HNL.out _ _ _ hm5)
     ·rw [hm5] at hp
      obtain ⟨rfl,hk⟩:=hp
      refine ⟨rfl,?_⟩
      rw [HQ.out,HE.out,hm5]
      exact ⟨rfl,(HK.out.drewN _).trans hk⟩
end Go.Proofs.YtagblibbngmbdaaGreatDoor
namespace Go.Proofs.YtagblibbngmbdaaGreatDoor
open Go.RowKit
structure RV (w:World) (ob fb:Nat) (u:Value) (x y:Int):Prop where
 o:X1 w ob u
 c0:w.cell? ⟨fb,0,none⟩=some (.int .i64 x)
 c1:w.cell? ⟨fb,1,none⟩=some (.int .i64 y)
 fz: ∀ o,w.frozen? ⟨fb,o,none⟩=false
theorem RV.keep {w w':World} {S:List Nat} {ob fb:Nat} {u:Value} {x y:Int} (h:RV w ob fb u x y) (k:Kp S w w') (h1:ob ∉ S) (h2:fb ∉ S):RV w' ob fb u x y:=
 ⟨h.o.keep k h1,k.some h.c0 h2,k.some h.c1 h2,fun o=>(k.frozen (p:=⟨fb,o,none⟩) (World.block_lt_of_cell? w ⟨fb,0,none⟩ h.c0) h2).trans (h.fz o)⟩
theorem RV.set {w:World} {ob fb:Nat} {u:Value} {x y:Int} (h:RV w ob fb u x y) (hne:ob ≠ fb) (u':Value) (x' y':Int):RV (((w.setCell ⟨ob,0,none⟩ u').setCell ⟨fb,0,none⟩ (.int .i64 x')).setCell ⟨fb,1,none⟩ (.int .i64 y')) ob fb u' x' y':=by
 have h1:X1 (w.setCell ⟨ob,0,none⟩ u') ob u':=⟨by rw [World.cell?_setCell_same (h:=h.o.c0)],fun o=>by simpa using h.o.fz o⟩
 have k:Kp [fb] (w.setCell ⟨ob,0,none⟩ u') (((w.setCell ⟨ob,0,none⟩ u').setCell ⟨fb,0,none⟩ (.int .i64 x')).setCell ⟨fb,1,none⟩ (.int .i64 y')):=Kp.rb (Kp.rb (Kp.refl _ _) _ _) _ _
 have k0:Kp [ob] w (w.setCell ⟨ob,0,none⟩ u'):=Kp.rb (Kp.refl _ _) _ _
 have c0:=k0.some h.c0 (by simpa using hne.symm)
 have c1:=k0.some h.c1 (by simpa using hne.symm)
 refine ⟨h1.keep k (by simpa using hne),?_,?_,fun o=>by simpa using h.fz o⟩
 ·rw [zab _ _ _ _ _ (by decide),World.cell?_setCell_same (h:=c0)]
 ·rw [World.cell?_setCell_same (h:=(zab _ _ _ _ _ (by decide)).trans c1)]
theorem zi7 (code at':Int) (w:World):(Instr.typeAssert (.iface 108 (.agg #[.int .i64 code,.int .i64 at'])) 20 108 true).run Tryz.prog w= .ok (.tuple #[.agg #[.int .i64 code,.int .i64 at'],.bool true]) w:=by kernel_rfl
theorem zk1 (w:World):(Instr.typeAssert .nilIface 20 108 true).run Tryz.prog w= .ok (.tuple #[.agg #[.int .i64 0,.int .i64 0],.bool false]) w:=by kernel_rfl
theorem zdh (ob fb:Nat) (code at':Int) (older:List PanicEntry) (w:World) (a0:Option Addr) (n0 c0:Nat) (x0 y0:Int) (h:RV w ob fb (.slice a0 n0 c0) x0 y0) (hne:ob ≠ fb):
  CallsD Tryz.prog 51 #[.pointer (some ⟨ob,0,none⟩),.pointer (some ⟨fb,0,none⟩)] (.panicking ({ v:= .iface 108 (.agg #[.int .i64 code,.int .i64 at']),recovered:=false }::older)) w fun e u' w'=>
   e= .returned (.tuple #[])∧u'= .panicking ({ v:= .iface 108 (.agg #[.int .i64 code,.int .i64 at']),recovered:=true }::older)∧RV w' ob fb (.slice none 0 0) code at'∧Kp [ob,fb] w w':=by
 refine callsD_of_wpS Tryz.func51 rfl fun c₀ cs hu=> ?_
 obtain ⟨⟨o0,oz⟩,f0,f1,fz⟩:=h
 have hne':fb ≠ ob:=fun e=>hne e.symm
 have l1:ob<w.heap.size:=World.block_lt_of_cell? w ⟨ob,0,none⟩ o0
 have l2:fb<w.heap.size:=World.block_lt_of_cell? w ⟨fb,0,none⟩ f0
 apply wpS_seq
 apply wpS_region
 have hta:=zi7 code at'
 simp [wpOpsS,go_sem,recoverD,hu,Tryz.ntmps51,Exit.thenS,hta,Array.replicate]
 refine wpS_of_wp ?_
 clear hta
 go_wp2
 go_region
 refine ⟨rfl,_,rfl,.tuple #[],by simp [results,Tryz.results51,go_sem],rfl,rfl,?_,?_⟩
 ·exact (RV.set ⟨⟨o0,oz⟩,f0,f1,fz⟩ hne (.slice none 0 0) code at').keep (S:=[]) ((Kp.refl _ _).alloc _).drew (by simp) (by simp)
 ·refine Kp.drew (Kp.alloc ?_ _)
  exact (((Kp.refl _ _).setCell (p:=⟨ob,0,none⟩) (by simp) _).setCell (p:=⟨fb,0,none⟩) (by simp) _).setCell (p:=⟨fb,1,none⟩) (by simp) _
theorem zi8 (p q:Addr) (w:World):
  CallsD Tryz.prog 51 #[.pointer (some p),.pointer (some q)] .returning w fun e u' w'=>e= .returned (.tuple #[])∧u'= .returning∧Kp [] w w':=by
 refine callsD_of_wpS Tryz.func51 rfl fun c₀ cs hu=> ?_
 apply wpS_seq
 apply wpS_region
 have hta:=zk1
 simp [wpOpsS,go_sem,recoverD,hu,Tryz.ntmps51,Exit.thenS,hta,Array.replicate]
 refine wpS_of_wp ?_
 clear hta
 go_wp2
 refine ⟨rfl,.returning,?_,.tuple #[],by simp [results,Tryz.results51,go_sem],rfl,rfl,(Kp.refl _ _).alloc _⟩
 cases c₀
 simp_all
end Go.Proofs.YtagblibbngmbdaaGreatDoor
namespace Go.Proofs.YtagblibbngmbdaaGreatDoor
open Go.RowKit
def Told (w0:World) (S:List Nat) (m0:Sx.Rs (List Sx.Tr)) (e:Ending) (w':World):Prop:=match m0 with
 | .inl (l,_,_)=> ∃ m a cap,e= .returned (.tuple #[.agg #[.slice a l.length cap],.agg #[.int .i64 0,.int .i64 0]])∧Sl (RG w' (fun b=>w0.heap.size≤b) m) w' (fun b=>w0.heap.size≤b) l (.slice a l.length cap)∧Kp S w0 w'
 | .inr (code,p,_)=>e= .returned (.tuple #[.agg #[.slice none 0 0],.agg #[.int .i64 code,.int .i64 p]])∧Kp S w0 w'
theorem zl7 (f q:Nat) (hB:CB f) (c:Cx) (w:World) (n:Nat) (s:Sx.St) (h:RD c w n s) (m0:Sx.Rs (List Sx.Tr)) (hm0:m0=Sx.bnd (Sx.stage c.e f s (c.full.drop n)) fun x s r=>Sx.stages c.e f q [x] s r) (hf: ¬ Dry m0):
  Calls Tryz.prog 33 #[.pointer (some ⟨c.rb,0,none⟩)] w (Told w [c.rb] m0):=by
 have hmf: ∀ (fn:Fn) (first cap:Array Value) (w:World),(Instr.makeFunc fn first cap).run Tryz.prog w= .ok (.func fn first cap) w:=fun _ _ _ _=>rfl
 have HP:=hide (zg9 f q hB c ((w.alloc (.cells #[.slice none 0 0] 24)).alloc (.cells #[.int .i64 0,.int .i64 0] 30)) n s ((h.alloc _).alloc _) m0 hm0 hf)
 have hr:=h.rlt
 have HR:Hid (RV ((w.alloc (.cells #[.slice none 0 0] 24)).alloc (.cells #[.int .i64 0,.int .i64 0] 30)) w.heap.size (w.heap.size+1) (.slice none 0 0) 0 0):=by
  refine ⟨(X1.new w _ _).keep ((Kp.refl [] _).alloc _) (by simp),?_,?_,fun o=> ?_⟩<;> simp [go_sem]
 clear h hm0 hf hB
 go_enter_defers Tryz.func33,Tryz.ntmps33
 go_wp2_with fail
 refine HP.out.mono ?_
 intro e w1 hp
 rcases m0 with ⟨l,s1,r1⟩|⟨code,p,rest⟩
 ·obtain ⟨v,n1,rfl,⟨m,a,cap,hv,hSl⟩,hr1,hd1,hk1⟩:=hp
  rw [hv]
  have HSl:=hide hSl
  have K1:Hid (Kp [c.rb] w w1):=(((Kp.refl _ _).alloc _).alloc _).trans hk1
  have HR1:=hide (HR.out.keep hk1 (by simp;omega) (by simp;omega))
  obtain ⟨⟨o0,oz⟩,f0,f1,fz⟩:=HR1.out
  have hz:=hk1.size
  simp at hz
  clear hv hr1 hd1 hk1 hSl
  go_wp2
  refine leaves_cons (f:=51) (args:= #[.pointer (some ⟨w.heap.size,0,none⟩),.pointer (some ⟨w.heap.size+1,0,none⟩)]) (by simp) (by simp [go_sem]) ?_
  refine (zi8 ⟨w.heap.size,0,none⟩ ⟨w.heap.size+1,0,none⟩ _).mono ?_
  rintro e u' w'' ⟨rfl,rfl,hk⟩
  have hR:=(RV.set HR1.out (by omega) (.slice a l.length cap) 0 0).keep hk (by simp) (by simp)
  have ks:Kp [w.heap.size+1,w.heap.size] w1 w'':=(Kp.rb (Kp.rb ((Kp.refl _ _).setCell (p:=⟨w.heap.size,0,none⟩) (by simp) _) _ _) _ _).trans (hk.mono (by simp))
  obtain ⟨⟨p0,_⟩,g0,g1,_⟩:=hR
  refine ⟨.tuple #[.agg #[.slice a l.length cap],.agg #[.int .i64 0,.int .i64 0]],by simp [results,Tryz.results33,go_sem,p0,g0,g1],m,a,cap,rfl,?_,?_⟩
  ·refine Sl.base (HSl.out.keep ks (fun k hk=>by simp at hk ⊢;omega) (fun d cc hd=>hd.keep ks (fun k hk=>by simp at hk ⊢;omega))) (fun b _ hb=>by simp at hb;omega) (fun d cc hd=>⟨hd.base (fun b _ hb=>by simp at hb;omega),?_⟩)
   obtain ⟨_,_,_,_,_,_,_,rfl,_⟩:=hd
   simp
  ·exact Kp.new (Kp.new ((K1.out.mono (by simp)).trans (ks.mono (S':=[w.heap.size+1,w.heap.size,c.rb]) (by simp))) (Nat.le_succ _)) (Nat.le_refl _)
 ·obtain ⟨rfl,hk1⟩:=hp
  have HR1:=hide (HR.out.keep hk1 (by simp;omega) (by simp;omega))
  refine leaves_cons (f:=51) (args:= #[.pointer (some ⟨w.heap.size,0,none⟩),.pointer (some ⟨w.heap.size+1,0,none⟩)]) (by simp) (by simp [go_sem]) ?_
  refine (zdh w.heap.size (w.heap.size+1) code p [] _ none 0 0 0 0 HR1.out (by omega)).mono ?_
  rintro e u' w'' ⟨rfl,rfl,hRV,hk⟩
  obtain ⟨⟨p0,_⟩,g0,g1,_⟩:=hRV
  refine ⟨.tuple #[.agg #[.slice none 0 0],.agg #[.int .i64 code,.int .i64 p]],by simp [results,Tryz.results33,go_sem,p0,g0,g1],rfl,?_⟩
  have K1:Kp [c.rb] w w1:=(((Kp.refl _ _).alloc _).alloc _).trans hk1
  exact Kp.new (Kp.new ((K1.mono (by simp)).trans (hk.mono (S':=[w.heap.size+1,w.heap.size,c.rb]) (by simp))) (Nat.le_succ _)) (Nat.le_refl _)
end Go.Proofs.YtagblibbngmbdaaGreatDoor
