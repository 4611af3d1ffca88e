import Derived.Test.YthcapfojofahkaaGreatDoorMay
namespace Go.Proofs.YthcapfojofahkaaGreatDoor
open Go.RowKit
theorem nameR_any (nm:List UInt8) (w:World) (hn:nm.length≤1099511627776):Calls Tryz.prog 44 #[.string (bs nm)] w fun e w'=>e= .returned (.bool (Tk.isN nm))∧Kp [] w w':=by
 refine (isName_any (bs nm) w (by rw [bsz];exact hn)).mono ?_
 rintro e w' ⟨rfl,hb⟩
 rw [bs_list]
 exact ⟨rfl,Kp.of_below hb⟩
theorem rFk_any (c a:Int) (w:World):Calls Tryz.prog 24 #[.int .i64 c,.int .i64 a] w fun e w'=>e= .returned (.agg #[.int .i64 c,.int .i64 a])∧Kp [] w w':=by
 refine (rF_any c a w).mono ?_
 rintro e w' ⟨rfl,hb⟩
 exact ⟨rfl,Kp.of_below hb⟩
structure FB (w:World) (v:Value) (wr:World):Prop where
 kp:Kp [] w wr
 bx:wr.cell? ⟨w.heap.size,0,none⟩=some v
 r0:wr.cell? ⟨w.heap.size+1,0,none⟩=some (.int .i64 0)
 r1:wr.cell? ⟨w.heap.size+1,1,none⟩=some (.int .i64 0)
 f0:wr.frozen? ⟨w.heap.size+1,0,none⟩=false
 f1:wr.frozen? ⟨w.heap.size+1,1,none⟩=false
theorem FB.go {w wr w':World} {v:Value} (h:FB w v wr) (hk:Kp [] wr w'):FB w v w':=
 ⟨h.kp.trans hk,hk.some h.bx (by simp),hk.some h.r0 (by simp),hk.some h.r1 (by simp),(hk.frozen (p:=⟨w.heap.size+1,0,none⟩) (World.block_lt_of_cell? _ _ h.r0) (by simp)).trans h.f0,(hk.frozen (p:=⟨w.heap.size+1,1,none⟩) (World.block_lt_of_cell? _ _ h.r1) (by simp)).trans h.f1⟩
set_option maxRecDepth 100000 in
set_option maxHeartbeats 2000000 in
theorem formFault_any (n:Nat) (w:World) (P:Nat→Prop) (l:List Sx.Tr) (a:Option Addr) (c:Nat) (hT:Tb w) (h:Sl (RG w P n) w P l (.slice a l.length c)) (hN:Nm n l):
  Calls Tryz.prog 30 #[.agg #[.slice a l.length c]] w fun e w'=>e= .returned (.agg #[.int .i64 (Rn.pf n l).1,.int .i64 (Rn.pf n l).2])∧Kp [] w w':=by
 have hl:=hN.len
 by_cases h0:l.length=0
 ·have e1:Rn.pf n l=(10,-1):=by unfold Rn.pf;rw [if_pos h0]
  rw [e1]
  obtain rfl:=List.length_eq_zero_iff.1 h0
  clear h hT hN hl h0 e1
  go_enter Tryz.func30,Tryz.ntmps30
  go_wp2_with fail
  refine (rFk_any 10 (-1) _).mono ?_
  rintro e w5 ⟨rfl,hk5⟩
  have B5:=hide ((⟨((Kp.refl _ _).alloc _).alloc _,by simp [go_sem],by simp [go_sem],by simp [go_sem],by simp [go_sem],by simp [go_sem]⟩:FB w (.slice a 0 c) ((w.alloc (.cells #[.slice a 0 c] 24)).alloc (.cells #[.int .i64 0,.int .i64 0] 30))).go hk5)
  obtain ⟨k5,-,r0,r1,f0,f1⟩:=B5.out
  clear hk5
  go_wp2
  refine bodyPost_ret (v:= .agg #[.int .i64 10,.int .i64 (-1)]) (by simp [results,Tryz.results30,go_sem,r0,r1]) rfl ⟨rfl,?_⟩
  exact (k5.nb (by omega) _ _).nb (by omega) _ _
 ·by_cases h1:10<l.length
  ·have e1:Rn.pf n l=(8,-1):=by unfold Rn.pf;rw [if_neg h0,if_pos h1]
   rw [e1]
   have q0:((l.length:Int) == 0)=false:=by simp only [beq_eq_false_iff_ne];omega
   have d1:decide ((10:Int)<(l.length:Int))=true:=by simp;omega
   clear h hT hN hl
   go_enter Tryz.func30,Tryz.ntmps30
   go_wp2_with fail
   refine (rFk_any 8 (-1) _).mono ?_
   rintro e w5 ⟨rfl,hk5⟩
   have B5:=hide ((⟨((Kp.refl _ _).alloc _).alloc _,by simp [go_sem],by simp [go_sem],by simp [go_sem],by simp [go_sem],by simp [go_sem]⟩:FB w (.slice a l.length c) ((w.alloc (.cells #[.slice a l.length c] 24)).alloc (.cells #[.int .i64 0,.int .i64 0] 30))).go hk5)
   obtain ⟨k5,-,r0,r1,f0,f1⟩:=B5.out
   clear hk5
   go_wp2
   refine bodyPost_ret (v:= .agg #[.int .i64 8,.int .i64 (-1)]) (by simp [results,Tryz.results30,go_sem,r0,r1]) rfl ⟨rfl,?_⟩
   exact (k5.nb (by omega) _ _).nb (by omega) _ _
  ·rw [Rn.pf_mid h0 h1]
   have q0:((l.length:Int) == 0)=false:=by simp only [beq_eq_false_iff_ne];omega
   have d1:decide ((10:Int)<(l.length:Int))=false:=by simp;omega
   have HS:=hide h
   have HT:=hide hT
   have HN:=hide hN
   clear h hT hN
   go_enter Tryz.func30,Tryz.ntmps30
   go_wp2_with fail
   go_loopw [3,4] (fun av iv wr=> ∃ (i m:Nat),i≤l.length∧m≤300∧iv= .int .i64 i∧av= .int .i64 m∧Hid (Rn.gf n 0 0 l=Rn.gf n i m (l.drop i))∧Hid (FB w (.slice a l.length c) wr)) (fun _ iv _=>l.length - (intOf iv).toNat)
   case atStart=>exact ⟨0,0,Nat.zero_le _,by omega,rfl,rfl,rfl,hide ⟨((Kp.refl _ _).alloc _).alloc _,by simp [go_sem],by simp [go_sem],by simp [go_sem],by simp [go_sem],by simp [go_sem]⟩⟩
   case round=>
    obtain ⟨i,m,hi,hm,rfl,rfl,HV,HK⟩:=hrel
    have bx:=HK.out.bx
    have hbx:=World.block_lt_of_cell? _ _ bx
    by_cases hlt:i<l.length
    ·have d2:decide ((i:Int)<(l.length:Int))=true:=by simp;omega
     obtain ⟨b,off,nm,at',ps,body,uP,uB,rfl,-,hd,m0,m1,m2,m3,hP,hB⟩:=GL.nth (HS.out.keep HK.out.kp (by simp) (fun d c h=>h.keep HK.out.kp (by simp))) i hlt
     obtain ⟨aP,cP,rfl,-⟩:=id hP
     obtain ⟨aB,cB,rfl⟩:=hB.slice
     obtain ⟨n1,n2,n3⟩:=HN.out.nm i _ hd
     have n1':nm.length≤1099511627776:=n1
     have n2':Rn.nmP ps:=n2
     have n4:Sx.wS n body≤1000000:=HN.out.ws i _ hd
     have n5:ps.length≤1000000:=HN.out.ps i _ hd
     have n6:=HN.out.lv
     have KW:Hid (Kp [] wr (wr.alloc (.cells #[.string (bs nm),.int .i64 at',.slice aP ps.length cP,.slice aB body.length cB] 43))):=hide ((Kp.refl _ _).alloc _)
     have HI1:=hide (fun w1 (hk:Kp [] wr w1)=>stmtsFault_all n w1 P body aB cB m 1 (HT.out.kp (HK.out.kp.trans hk)) (hB.keep hk (by simp)) (by omega) n3 hm (by omega))
     have HR:=hide (HV.out.trans (Rn.gf_drop (n:=n) (a:=m) hd))
     have HH:Hid (Rn.hf (Sx.tG nm at' ps body)=if Tk.isN nm=false then 4 else if 6<ps.length then 8 else Rn.firstOf Rn.pf1 ps):=rfl
     change Hid (_=if Rn.hf (Sx.tG nm at' ps body) ≠ 0 then .inr (Rn.hf (Sx.tG nm at' ps body),-2 - (i:Int)) else Rn.thn (Rn.bf n 1 m body) fun b=>Rn.gf n (i+1) b (l.drop (i+1))) at HR
     generalize Rn.hf (Sx.tG nm at' ps body)=H at *
     have HPs:=hide hP
     have HNp:=hide n2'
     have HI:=hide (fun W=>nameR_any nm W n1')
     have hk0:(0:Int)≤(i:Int):=by omega
     have hk1:(i:Int)<(l.length:Int):=by omega
     have ew:IntKind.i64.wrap (-2 - (i:Int))= -2 - (i:Int):=by simp only [IntKind.wrap_i64];omega
     clear hd hP hB n1 n2 n3 n4 n6 n1' n2' HV
     cases hNm:Tk.isN nm with
     |false=>
      rw [hNm] at HI
      have hv:H=4:=by rw [HH.out,hNm];rfl
      rw [hv,if_pos (by decide)] at HR
      go_wp2_with fail
      refine (HI.out _).mono ?_
      rintro e w3 ⟨rfl,hk3⟩
      have B3:=hide (HK.out.go (KW.out.trans hk3))
      clear hk3
      go_wp2_with fail
      refine (rFk_any 4 (-2 - (i:Int)) _).mono ?_
      rintro e w5 ⟨rfl,hk5⟩
      obtain ⟨k5,-,r0,r1,f0,f1⟩:=B3.out.go hk5
      clear hk5
      go_wp2
      refine bodyPost_ret (v:= .agg #[.int .i64 4,.int .i64 (-2 - (i:Int))]) (by simp [results,Tryz.results30,go_sem,r0,r1]) rfl ⟨?_,?_⟩
      ·rw [HR.out];rfl
      ·exact (k5.nb (by omega) _ _).nb (by omega) _ _
     |true=>
      rw [hNm] at HI
      by_cases h6:6<ps.length
      ·have d6:decide ((6:Int)<(ps.length:Int))=true:=by simp;omega
       have hv:H=8:=by rw [HH.out,hNm,if_neg (by simp),if_pos h6]
       rw [hv,if_pos (by decide)] at HR
       go_wp2_with fail
       refine (HI.out _).mono ?_
       rintro e w3 ⟨rfl,hk3⟩
       have B3:=hide (HK.out.go (KW.out.trans hk3))
       have o2:=hk3.some (p:=⟨wr.heap.size,2,none⟩) (v:= .slice aP ps.length cP) (by simp [go_sem]) (by simp)
       clear hk3
       go_wp2_with fail
       refine (rFk_any 8 (-2 - (i:Int)) _).mono ?_
       rintro e w5 ⟨rfl,hk5⟩
       obtain ⟨k5,-,r0,r1,f0,f1⟩:=B3.out.go hk5
       clear hk5
       go_wp2
       refine bodyPost_ret (v:= .agg #[.int .i64 8,.int .i64 (-2 - (i:Int))]) (by simp [results,Tryz.results30,go_sem,r0,r1]) rfl ⟨?_,?_⟩
       ·rw [HR.out];rfl
       ·exact (k5.nb (by omega) _ _).nb (by omega) _ _
      ·have d6:decide ((6:Int)<(ps.length:Int))=false:=by simp;omega
       have hv:H=Rn.firstOf Rn.pf1 ps:=by rw [HH.out,hNm,if_neg (by simp),if_neg h6]
       rw [hv] at HR
       go_wp2_with fail
       refine (HI.out _).mono ?_
       rintro e w3 ⟨rfl,hk3⟩
       have B3:=hide (HK.out.go (KW.out.trans hk3))
       have K3:=hide (KW.out.trans hk3)
       have o2:=hk3.some (p:=⟨wr.heap.size,2,none⟩) (v:= .slice aP ps.length cP) (by simp [go_sem]) (by simp)
       have o3:=hk3.some (p:=⟨wr.heap.size,3,none⟩) (v:= .slice aB body.length cB) (by simp [go_sem]) (by simp)
       clear hk3
       go_wp2_with fail
       go_loopw [6] (fun kv wq=> ∃ (k:Nat),k≤ps.length∧kv= .int .i64 k∧Hid (Rn.firstOf Rn.pf1 ps=Rn.firstOf Rn.pf1 (ps.drop k))∧Hid (FB w (.slice (some ⟨b,off,none⟩) l.length c) wq)∧Hid (Kp [] wr wq)∧wq.cell? ⟨wr.heap.size,2,none⟩=some (.slice aP ps.length cP)∧wq.cell? ⟨wr.heap.size,3,none⟩=some (.slice aB body.length cB)) (fun kv _=>ps.length - (intOf kv).toNat)
       case atStart=>exact ⟨0,Nat.zero_le _,rfl,rfl,B3.out,K3.out,o2,o3⟩
       case round=>
        obtain ⟨k,hk,rfl,HF,BQ,KQ,u2,u3⟩:=hrel
        clear B3 K3 o2 o3
        by_cases hlk:k<ps.length
        ·have d3:decide ((k:Int)<(ps.length:Int))=true:=by simp;omega
         obtain ⟨bp,op,pn,pT,rfl,hdp,y0,y1⟩:=(HPs.out.keep KQ.out (by simp) (fun _ _ h=>h)).nth' k hlk
         obtain ⟨z1,z2⟩:=HNp.out k _ hdp
         have z1':pn.length≤1099511627776:=z1
         have z2':pT.length≤1099511627776:=z2
         have HI2:=hide (fun W=>nameR_any pn W z1')
         have HI3:=hide (fun W=>rIsType_any pT 3 W z2')
         have HD:=hide (HF.out.trans (by rw [drop_nth hdp];rfl:Rn.firstOf Rn.pf1 (ps.drop k)=if Rn.pf1 (Sx.tP pn pT) ≠ 0 then Rn.pf1 (Sx.tP pn pT) else Rn.firstOf Rn.pf1 (ps.drop (k+1))))
         have e1:Rn.pf1 (Sx.tP pn pT)=if Tk.isN pn=false then 4 else if Rn.isT pT 3=false then 11 else 0:=rfl
         rw [e1] at HD
         have hj0:(0:Int)≤(k:Int):=by omega
         have hj1:(k:Int)<(ps.length:Int):=by omega
         clear e1 z1 z2 z1' z2' hdp
         cases hn2:Tk.isN pn with
         |false=>
          rw [hn2] at HI2 HD
          have HD':Hid (Rn.firstOf Rn.pf1 ps=4):=HD.out
          rw [HD'.out,if_pos (by decide)] at HR
          go_wp2_with fail
          refine (HI2.out _).mono ?_
          rintro e w4 ⟨rfl,hk4⟩
          have B4:=hide (BQ.out.go hk4)
          clear hk4
          go_wp2_with fail
          refine (rFk_any 4 (-2 - (i:Int)) _).mono ?_
          rintro e w5 ⟨rfl,hk5⟩
          obtain ⟨k5,-,r0,r1,f0,f1⟩:=B4.out.go hk5
          clear hk5
          go_wp2
          refine bodyPost_ret (v:= .agg #[.int .i64 4,.int .i64 (-2 - (i:Int))]) (by simp [results,Tryz.results30,go_sem,r0,r1]) rfl ⟨?_,?_⟩
          ·rw [HR.out];rfl
          ·exact (k5.nb (by omega) _ _).nb (by omega) _ _
         |true=>
          rw [hn2] at HI2 HD
          cases ht2:Rn.isT pT 3 with
          |false=>
           rw [ht2] at HI3 HD
           have HD':Hid (Rn.firstOf Rn.pf1 ps=11):=HD.out
           rw [HD'.out,if_pos (by decide)] at HR
           go_wp2_with fail
           refine (HI2.out _).mono ?_
           rintro e w4 ⟨rfl,hk4⟩
           have B4:=hide (BQ.out.go hk4)
           have v2:=hk4.some u2 (by simp)
           have y1':=hk4.some y1 (by simp)
           clear hk4
           go_wp2_with fail
           refine (HI3.out _).mono ?_
           rintro e w6 ⟨rfl,rfl⟩
           go_wp2_with fail
           refine (rFk_any 11 (-2 - (i:Int)) _).mono ?_
           rintro e w5 ⟨rfl,hk5⟩
           obtain ⟨k5,-,r0,r1,f0,f1⟩:=B4.out.go hk5
           clear hk5
           go_wp2
           refine bodyPost_ret (v:= .agg #[.int .i64 11,.int .i64 (-2 - (i:Int))]) (by simp [results,Tryz.results30,go_sem,r0,r1]) rfl ⟨?_,?_⟩
           ·rw [HR.out];rfl
           ·exact (k5.nb (by omega) _ _).nb (by omega) _ _
          |true=>
           rw [ht2] at HI3 HD
           have HD':Hid (Rn.firstOf Rn.pf1 ps=Rn.firstOf Rn.pf1 (ps.drop (k+1))):=HD.out
           go_wp2_with fail
           refine (HI2.out _).mono ?_
           rintro e w4 ⟨rfl,hk4⟩
           have B4:=hide (BQ.out.go hk4)
           have K4:=hide (KQ.out.trans hk4)
           have v2:=hk4.some u2 (by simp)
           have v3:=hk4.some u3 (by simp)
           have y1':=hk4.some y1 (by simp)
           clear hk4
           go_wp2_with fail
           refine (HI3.out _).mono ?_
           rintro e w6 ⟨rfl,rfl⟩
           go_wp2
           go_roundw
           case rel=>exact ⟨k+1,by omega,by go_num,HD'.out,B4.out,K4.out,v2,v3⟩
           case measure=>simp [intOf];omega
        ·obtain rfl:k=ps.length:=by omega
         have d3:decide ((ps.length:Int)<(ps.length:Int))=false:=by simp
         rw [List.drop_length] at HF
         rw [HF.out,if_neg (by simp [Rn.firstOf])] at HR
         generalize hr1:Rn.bf n 1 m body=r1 at *
         cases r1 with
         |inr f=>
          have hf:=Rn.bf_ne n _ _ _ f hr1
          have ff:(f.1 !=0)=true:=by simpa using hf
          change Hid (∀ w1,_→Calls _ _ _ _ fun e w'=> ∃ x:Int,e= .returned (.tuple #[.agg #[.int .i64 f.1,.int .i64 f.2],.int .i64 x])∧_) at HI1
          have HR':Hid (Rn.gf n 0 0 l= .inr f):=HR.out
          go_wp2_with fail
          refine (HI1.out _ KQ.out).mono ?_
          rintro e w4 ⟨x1,rfl,-,hk4⟩
          obtain ⟨k5,-,r0,r1,f0,f1⟩:=BQ.out.go hk4
          have hb4:=World.block_lt_of_cell? _ _ r0
          clear hk4
          go_wp2
          refine bodyPost_ret (v:= .agg #[.int .i64 f.1,.int .i64 f.2]) (by simp [results,Tryz.results30,go_sem,r0,r1,hb4]) rfl ⟨?_,?_⟩
          ·rw [HR'.out];rfl
          ·exact ((k5.nb (by omega) _ _).nb (by omega) _ _).alloc _
         |inl b2=>
          have hb3:=Rn.bf_le n _ _ _ _ hm hr1
          change Hid (∀ w1,_→Calls _ _ _ _ fun e w'=> ∃ x:Int,e= .returned (.tuple #[.agg #[.int .i64 0,.int .i64 0],.int .i64 x])∧_) at HI1
          have HR':Hid (Rn.gf n 0 0 l=Rn.gf n (i+1) b2 (l.drop (i+1))):=HR.out
          go_wp2_with fail
          refine (HI1.out _ KQ.out).mono ?_
          rintro e w4 ⟨x1,rfl,hx1,hk4⟩
          obtain rfl:x1=(b2:Int):=hx1 b2 rfl
          have B4:=hide (BQ.out.go hk4)
          clear hk4 hx1
          go_wp2
          go_roundw
          case rel=>exact ⟨i+1,b2,by omega,hb3,by go_num,rfl,HR'.out,B4.out.go ((Kp.refl _ _).alloc _)⟩
          case measure=>simp [intOf];omega
    ·obtain rfl:i=l.length:=by omega
     have d2:decide ((l.length:Int)<(l.length:Int))=false:=by simp
     rw [List.drop_length] at HV
     obtain ⟨k5,-,r0,r1,f0,f1⟩:=HK.out
     go_wp2
     refine bodyPost_ret (v:= .agg #[.int .i64 0,.int .i64 0]) (by simp [results,Tryz.results30,go_sem,r0,r1]) rfl ⟨?_,?_⟩
     ·rw [HV.out];rfl
     ·exact (k5.nb (by omega) _ _).nb (by omega) _ _
end Go.Proofs.YthcapfojofahkaaGreatDoor
