import Derived.Test.YthcapfojofahkaaGreatDoorMbl
import Derived.Test.YthcapfojofahkaaGreatDoorMbq
namespace Go.Proofs.YthcapfojofahkaaGreatDoor
open Go.RowKit
set_option maxRecDepth 100000 in
set_option maxHeartbeats 4000000 in
theorem rVars_any (ST: ∀ c n,StsT c n) (n:Nat) (w:World) (P:Nat→Prop) (l:List Sx.Tr) (a:Option Addr) (cap:Nat) (hT:Tb w) (h:Sl (RG w P n) w P l (.slice a l.length cap)) (hN:Nm n l) (hPw: ∀ b,P b→b<w.heap.size) (hlB: ∀ g ∈ l,(Sx.gB g).length≤1000000):
  Calls Tryz.prog 10 #[.agg #[.slice a l.length cap]] w (VsP w (Kn.vars n l)):=by
 have HS:=hide h
 have KA:Hid (Kp [] w ((w.alloc (.cells #[.slice a l.length cap] 24)).alloc (.cells #[.int .i64 0,.int .i64 0] 30))):=hide (((Kp.refl _ _).alloc _).alloc _)
 have CC:=hide (renderFault_any n _ P l a cap (hT.kp KA.out) (GL.keep h KA.out) hN)
 have HV:Hid (Kn.vars n l=if (Rn.told n l).1 ≠ 0 then .inr (Rn.told n l) else match Kn.stg n 0 0 [] [] l with
  | .inr f=> .inr f
  | .inl o=>if l.any Kn.isMain then .inl o else .inr (13,-1)):=rfl
 generalize Kn.vars n l=RV at *
 clear h
 by_cases h0:(Rn.told n l).1=0
 ·have hF:Rn.told n l=(0,0):=told_zero h0
  have HV2:Hid (RV=match Kn.stg n 0 0 [] [] l with
   | .inr f=> .inr f
   | .inl o=>if l.any Kn.isMain then .inl o else .inr (13,-1)):=hide (by rw [HV.out,if_neg (by simpa using h0)])
  rw [hF] at CC
  obtain ⟨-,hne,hl10,-⟩:=Rn.pf_ok (Rn.told_ok h0)
  obtain ⟨bg,hgf⟩:=gf_of_pf (Rn.told_ok h0) hne hl10
  have HPS:Hid (∀ (i:Nat) x,l[i]? =some x→(Sx.gP x).length≤1000000):=hide hN.ps
  have HLB:=hide hlB
  have HPW:=hide hPw
  have hll:l.length≤1000000:=by omega
  obtain ⟨i0,hi0,hz0,hz1,hz2⟩:=info_parts Tryz.infoVars
  generalize hRS:Kn.stg n 0 0 [] [] l=RS at *
  have HRS:=hide hRS
  clear hN hT h0 hF HV hlB hRS hPw
  go_enter Tryz.func10,Tryz.ntmps10
  go_wp2_with fail
  refine CC.out.mono ?_
  rintro e w2 ⟨rfl,k2⟩
  have KB:Hid (Kp [] ((w.alloc (.cells #[.slice a l.length cap] 24)).alloc (.cells #[.int .i64 0,.int .i64 0] 30)) (w2.alloc (.cells #[.int .i64 0,.int .i64 0] 30))):=hide (k2.alloc _)
  have hl2:w.heap.size+2≤w2.heap.size:=by have:=k2.size;simp at this;omega
  have V0:Hid (MI w2.heap.size ((w.alloc (.cells #[.slice a l.length cap] 24)).alloc (.cells #[.int .i64 0,.int .i64 0] 30)) n l RS 0 0 (.slice none 0 0) [] [] false (w2.alloc (.cells #[.int .i64 0,.int .i64 0] 30))):=
   hide ⟨⟨rfl,.inl ⟨rfl,rfl⟩⟩,⟨rfl,fun k x hx=>by cases hx⟩,rfl,KB.out,by rw [List.take_zero];exact HRS.out.symm,⟨bg,hgf⟩,by decide,rfl,by simp⟩
  clear k2 hgf
  generalize hWA:((w.alloc (.cells #[.slice a l.length cap] 24)).alloc (.cells #[.int .i64 0,.int .i64 0] 30))=WA at *
  have HA0:Hid (WA.cell? ⟨w.heap.size,0,none⟩=some (.slice a l.length cap)∧WA.cell? ⟨w.heap.size+1,0,none⟩=some (.int .i64 0)∧WA.cell? ⟨w.heap.size+1,1,none⟩=some (.int .i64 0)∧WA.frozen? ⟨w.heap.size+1,0,none⟩=false∧WA.frozen? ⟨w.heap.size+1,1,none⟩=false∧WA.heap.size=w.heap.size+2):=hide (by subst hWA;exact ⟨by simp [go_sem],by simp [go_sem],by simp [go_sem],by simp [go_sem],by simp [go_sem],by simp⟩)
  clear hWA KB
  go_wp2
  go_loopw [5,6,7,8] (fun ov tv mv iv wr=> ∃ (i t:Nat) (us:List Value) (out:List (List Kn.Nv)) (M:Bool),i≤l.length∧iv= .int .i64 i∧tv= .int .i64 t∧mv= .bool M∧Hid (MI w2.heap.size WA n l RS i t ov us out M wr)) (fun _ _ _ iv _=>l.length - (intOf iv).toNat)
  case atStart=>exact ⟨0,0,_,_,_,Nat.zero_le _,rfl,rfl,rfl,V0⟩
  case round=>
   obtain ⟨i,t,us,out,M,hil,rfl,rfl,rfl,HI⟩:=hrel
   have K0:=hide (KA.out.trans HI.out.kp)
   obtain ⟨x1,x2,x3,x4,x5,x6⟩:=HA0.out
   have p0:=HI.out.kp.some x1 (by simp)
   have r0:=HI.out.kp.some x2 (by simp)
   have r1:=HI.out.kp.some x3 (by simp)
   have g0:=(HI.out.kp.frozen (p:=⟨w.heap.size+1,0,none⟩) (by show w.heap.size+1<_;omega) (by simp)).trans x4
   have g1:=(HI.out.kp.frozen (p:=⟨w.heap.size+1,1,none⟩) (by show w.heap.size+1<_;omega) (by simp)).trans x5
   clear x1 x2 x3 x4 x5
   by_cases hlt:i<l.length
   ·have d1:decide ((i:Int)<(l.length:Int))=true:=by simp;omega
    obtain ⟨b,off,nm,at',ps,body,uP,uB,rfl,hPb,hd,m0,m1,m2,m3,hP,hB⟩:=GL.nth (GL.keep HS.out K0.out) i hlt
    obtain ⟨aP,cP,rfl,-⟩:=id hP
    obtain ⟨aB,cB,rfl⟩:=hB.slice
    have hdr:l.drop i=Sx.tG nm at' ps body::l.drop (i+1):=drop_nth hd
    obtain ⟨bq,hgf⟩:=HI.out.gf
    rw [hdr] at hgf
    obtain ⟨hf1,hf2,hf3,hf4⟩:=Kn.gf_cons hgf
    change Rn.okB n body at hf2
    change Rn.gf n (i+1) (t+Kn.cs n body) _=_ at hf3
    change t≤300→t+Kn.cs n body≤300 at hf4
    have ht3:=HI.out.t3
    have hcs:=hf4 ht3
    have ty2:=(Kn.hf_ty hf1).2.1
    change ps.length≤6 at ty2
    have hbl:body.length≤1000000:=HLB.out _ (List.mem_of_getElem? hd)
    have HP:=hide hP
    have HB:=hide hB
    have HOK:=hide (Kn.okS_of n hB hf2)
    have HGF:Hid (∃ b,Rn.gf n (i+1) (t+Kn.cs n body) (l.drop (i+1))= .inl b):=hide ⟨bq,hf3⟩
    obtain ⟨V,hV⟩: ∃ V,V=ps.map fun p=>((Sx.pH p).1,(Sx.pH p).2):=⟨_,rfl⟩
    have HVl:Hid (V.length=ps.length):=hide (by rw [hV];simp)
    have HVk:Hid (∀ (k:Nat) x y,ps[k]? =some (Sx.tP x y)→V[k]? =some (x,y)):=hide (fun k x y hx=>by rw [hV,List.getElem?_map,hx];rfl)
    have HEQ:Hid (RS=match Kn.sg n (l.take i) V nm body t (-2 - (i:Int)) with
     | .inr f=> .inr f
     | .inl s=>Kn.stg n (i+1) s.at' (l.take i++[Sx.tG nm at' ps body]) (out++[s.bd]) (l.drop (i+1))):=hide (by rw [HI.out.eq,hdr,Kn.stg_sg,hV];rfl)
    have HSG:Hid (Kn.sg n (l.take i) V nm body t (-2 - (i:Int))=if (Kn.abv (l.take i) nm).isSome || Kn.twiceP [] V then .inr (9,-2 - (i:Int)) else match Kn.sts n (l.take i) ⟨V,V,t⟩ body with
     | .inr f=> .inr f
     | .inl s=>if 30<s.bd.length then .inr (8,-2 - (i:Int)) else .inl s):=hide rfl
    have HTK:Hid (l.take (i+1)=l.take i++[Sx.tG nm at' ps body]):=hide (by rw [List.take_add_one,hd];rfl)
    have HBG:Hid ((l.take (i+1)).any Kn.isMain=(M || Kn.isMain (Sx.tG nm at' ps body))):=hide (by rw [HTK.out,List.any_append,←HI.out.bg];simp)
    have HIM:=hide (Kn.isMain_tG nm at' ps body)
    have hk0:(0:Int)≤(i:Int):=by omega
    have hk1:(i:Int)<(l.length:Int):=by omega
    have hwr:wrap64 (-2 - (i:Int))= -2 - (i:Int):=by simp only [wrap64];omega
    have hPg: ∀ b,P b→b<wr.heap.size:=fun b hb=>Nat.lt_of_lt_of_le (HPW.out b hb) K0.out.size
    have HPg:=hide hPg
    have hgl:=HI.out.gl
    have kA:=((Kp.refl [] wr).alloc (.cells #[.slice (some ⟨b,off,none⟩) l.length cap,.int .i64 i,.slice none 0 0,.slice none 0 0,.int .i64 t,.int .i64 0,.int .i64 0] 68)).alloc (.cells #[.string (bs nm),.int .i64 at',.slice aP ps.length cP,.slice aB body.length cB] 43)
    have NS0:Hid (NS ⟨wr.heap.size,l,some ⟨b,off,none⟩,cap,i⟩ ((wr.alloc (.cells #[.slice (some ⟨b,off,none⟩) l.length cap,.int .i64 i,.slice none 0 0,.slice none 0 0,.int .i64 t,.int .i64 0,.int .i64 0] 68)).alloc (.cells #[.string (bs nm),.int .i64 at',.slice aP ps.length cP,.slice aB body.length cB] 43)) (.slice none 0 0) (.slice none 0 0) [] [] t (0,0)):=hide
     ⟨by simp;omega,by simp [go_sem],by simp [go_sem],by simp [go_sem],by simp [go_sem],by simp [go_sem],by simp [go_sem],by simp [go_sem],fun k=>by simp [go_sem],⟨rfl,.inl ⟨rfl,rfl⟩⟩,⟨rfl,.inl ⟨rfl,rfl⟩⟩,(fun b e=>by cases e),by simp,by simp,by omega⟩
    have CA:=hide (nmAbove_any ⟨wr.heap.size,l,some ⟨b,off,none⟩,cap,i⟩ n _ P nm _ _ _ _ t _ (GL.keep HS.out (K0.out.trans kA)) hil hll NS0.out)
    dsimp only at CA
    have AB:=hide (Kn.abi_abv (l.take i) nm)
    have KA2:=hide kA
    have hb0:=World.block_lt_of_cell? _ _ p0
    have hbm:=World.block_lt_of_cell? _ _ m0
    clear hP hB hd hdr hgf hf1 hf2 hf3 hf4 kA hV hPg
    go_wp2_with fail
    refine CA.out.mono ?_
    rintro e w4 ⟨rfl,m,rfl⟩
    have K4:=hide (KA2.out.drewN m)
    have NS4:=hide (NS0.out.drewN m)
    have s0:(((wr.alloc (.cells #[.slice (some ⟨b,off,none⟩) l.length cap,.int .i64 i,.slice none 0 0,.slice none 0 0,.int .i64 t,.int .i64 0,.int .i64 0] 68)).alloc (.cells #[.string (bs nm),.int .i64 at',.slice aP ps.length cP,.slice aB body.length cB] 43)).drewN m).cell? ⟨wr.heap.size+1,0,none⟩=some (.string (bs nm)):=by simp [go_sem]
    have s2:(((wr.alloc (.cells #[.slice (some ⟨b,off,none⟩) l.length cap,.int .i64 i,.slice none 0 0,.slice none 0 0,.int .i64 t,.int .i64 0,.int .i64 0] 68)).alloc (.cells #[.string (bs nm),.int .i64 at',.slice aP ps.length cP,.slice aB body.length cB] 43)).drewN m).cell? ⟨wr.heap.size+1,2,none⟩=some (.slice aP ps.length cP):=by simp [go_sem]
    have s3:(((wr.alloc (.cells #[.slice (some ⟨b,off,none⟩) l.length cap,.int .i64 i,.slice none 0 0,.slice none 0 0,.int .i64 t,.int .i64 0,.int .i64 0] 68)).alloc (.cells #[.string (bs nm),.int .i64 at',.slice aP ps.length cP,.slice aB body.length cB] 43)).drewN m).cell? ⟨wr.heap.size+1,3,none⟩=some (.slice aB body.length cB):=by simp [go_sem]
    have hz4:wr.heap.size+2≤(((wr.alloc (.cells #[.slice (some ⟨b,off,none⟩) l.length cap,.int .i64 i,.slice none 0 0,.slice none 0 0,.int .i64 t,.int .i64 0,.int .i64 0] 68)).alloc (.cells #[.string (bs nm),.int .i64 at',.slice aP ps.length cP,.slice aB body.length cB] 43)).drewN m).heap.size:=by simp
    generalize hW4:((wr.alloc (.cells #[.slice (some ⟨b,off,none⟩) l.length cap,.int .i64 i,.slice none 0 0,.slice none 0 0,.int .i64 t,.int .i64 0,.int .i64 0] 68)).alloc (.cells #[.string (bs nm),.int .i64 at',.slice aP ps.length cP,.slice aB body.length cB] 43)).drewN m=w4 at *
    clear hW4 NS0 CA KA2
    have q0:=K4.out.some p0 (by simp)
    have r04:=K4.out.some r0 (by simp)
    have r14:=K4.out.some r1 (by simp)
    have g04:=(K4.out.frozen (p:=⟨w.heap.size+1,0,none⟩) (World.block_lt_of_cell? _ _ r0) (by simp)).trans g0
    have g14:=(K4.out.frozen (p:=⟨w.heap.size+1,1,none⟩) (World.block_lt_of_cell? _ _ r1) (by simp)).trans g1
    have hw2:w.heap.size+2≤wr.heap.size:=by omega
    clear p0 r0 r1 g0 g1
    rcases AB.out with ⟨ha,hs⟩|⟨k,ha,hs⟩
    ·rw [ha]
     have HSG2:Hid (Kn.sg n (l.take i) V nm body t (-2 - (i:Int))=if Kn.twiceP [] V then .inr (9,-2 - (i:Int)) else match Kn.sts n (l.take i) ⟨V,V,t⟩ body with
      | .inr f=> .inr f
      | .inl s=>if 30<s.bd.length then .inr (8,-2 - (i:Int)) else .inl s):=hide (by rw [HSG.out,hs];rfl)
     have hfl:Hid (∀ f,Kn.sg n (l.take i) V nm body t (-2 - (i:Int))= .inr f→RV= .inr f):=hide (fun f hf=>by rw [HV2.out,HEQ.out,hf])
     clear AB HSG ha hs
     have VF4:Hid (VF w.heap.size wr.heap.size (.slice (some ⟨b,off,none⟩) l.length cap) (.slice aP ps.length cP) (.slice aB body.length cB) nm w4):=hide ⟨s0,s2,s3,q0,r04,r14,g04,g14⟩
     obtain ⟨w3,e3⟩: ∃ x,x=wr:=⟨_,rfl⟩
     subst e3
     clear s0 s2 s3 q0 r04 r14 g04 g14
     go_wp2
     go_loopw [11] (fun kv wk=> ∃ k:Nat,k≤ps.length∧kv= .int .i64 k∧Hid (∃ nv bv,NS ⟨w3.heap.size,l,some ⟨b,off,none⟩,cap,i⟩ wk nv bv (V.take k) (V.take k) t (0,0)∧Nf ⟨w3.heap.size,l,some ⟨b,off,none⟩,cap,i⟩ (.slice none 0 0) (.slice none 0 0) w4 nv bv wk)∧Hid (Kn.twiceP [] V=Kn.twiceP (V.take k) (V.drop k))) (fun kv _=>ps.length - (intOf kv).toNat)
     case atStart=>exact ⟨0,Nat.zero_le _,rfl,hide ⟨_,_,by simpa using NS4.out,Nf.refl _ _ _ _⟩,hide (by simp)⟩
     case round=>
      obtain ⟨k,hkl,rfl,HN,HTW⟩:=hrel
      obtain ⟨nv,bv,hN,hF⟩:=HN.out
      have kk:Kp [w3.heap.size] w4 wr:=hF.kp
      have K5:=hide kk
      obtain ⟨s0',s2',s3',q0',r0',r1',g0',g1'⟩:=VF4.out.go kk hw2
      have HN':=hide hN
      have HF:=hide hF
      have KW:Hid (Kp [w3.heap.size] w3 wr):=hide ((K4.out.mono (by simp)).trans kk)
      have KU:Hid (Kp [] w wr):=hide (Kp.new ((K0.out.mono (by simp)).trans KW.out) (by omega))
      have hPd:Hid (∀ x,x ∈ [w3.heap.size]→ ¬ P x):=hide (fun x hx hp=>by have:=HPg.out x hp;simp at hx;omega)
      have hsz:=kk.size
      clear hN hF HN kk
      by_cases hlt2:k<ps.length
      ·have d2:decide ((k:Int)<(ps.length:Int))=true:=by simp;omega
       obtain ⟨b1,off1,nm1,T1,rfl,hd1,y0,y1⟩:=(HP.out.keep KW.out hPd.out (fun d c h=>h)).nth' k hlt2
       have hv1:=HVk.out k nm1 T1 hd1
       have HD1:=hide hd1
       have HTW2:Hid (Kn.twiceP [] V=(Kn.isIn (V.take k) nm1 || Kn.twiceP (V.take (k+1)) (V.drop (k+1)))):=hide (by rw [HTW.out,Kn.twiceP_at hv1,List.take_add_one,hv1];rfl)
       have HTK1:Hid (V.take (k+1)=V.take k++[(nm1,T1)]):=hide (by rw [List.take_add_one,hv1];rfl)
       have hvl:(V.take k).length≤6:=by rw [List.length_take];have:=HVl.out;omega
       have HVT:=hide hvl
       have CB:=hide (nmIsBound_any w3.heap.size (V.take k) nm1 bv wr (by omega) (vr_own HN'.out.ob) HN'.out.c3)
       have HBK:=hide (fun m2=>nmBind_kp ⟨w3.heap.size,l,some ⟨b,off,none⟩,cap,i⟩ (wr.drewN m2) nv bv (V.take k) (V.take k) t (0,0) nm1 T1 (HN'.out.drewN m2) (by have:=HVT.out;omega) (by have:=HVT.out;omega))
       dsimp only at HBK
       have e0:(0:Int)≤(k:Int):=by omega
       have e1:(k:Int)<(ps.length:Int):=by omega
       generalize Kn.isIn (V.take k) nm1=IN at *
       clear hd1 hv1 hvl
       go_wp2_with fail
       refine CB.out.mono ?_
       rintro e w5 ⟨rfl,m2,rfl⟩
       cases IN with
       |true=>
        have HRf:Hid (RV= .inr (9,-2 - (i:Int))):=hide (hfl.out _ (by rw [HSG2.out,HTW2.out];rfl))
        have HRF:=hide (rFn_any 9 (-2 - (i:Int)) (wr.drewN m2))
        clear HEQ HV2 CB HBK HSG2 hfl
        go_wp2_with fail
        refine HRF.out.mono ?_
        rintro e w5 ⟨rfl,k5⟩
        have r05:=k5.some (show (wr.drewN m2).cell? _=_ from r0') (by simp)
        have r15:=k5.some (show (wr.drewN m2).cell? _=_ from r1') (by simp)
        have g05:=(k5.frozen (p:=⟨w.heap.size+1,0,none⟩) (World.block_lt_of_cell? _ _ (show (wr.drewN m2).cell? _=_ from r0')) (by simp)).trans g0'
        have g15:=(k5.frozen (p:=⟨w.heap.size+1,1,none⟩) (World.block_lt_of_cell? _ _ (show (wr.drewN m2).cell? _=_ from r1')) (by simp)).trans g1'
        have K5:=hide (KU.out.trans (((Kp.refl _ _).drewN m2).trans k5))
        clear k5
        go_wp2
        refine bodyPost_ret (v:= .tuple #[.slice none 0 0,.agg #[.int .i64 9,.int .i64 (-2 - (i:Int))]]) (by simp [results,Tryz.results10,go_sem,r05,r15]) rfl ?_
        show VsP w RV _ _
        rw [HRf.out]
        exact ⟨rfl,(K5.out.nb (by omega) _ _).nb (by omega) _ _⟩
       |false=>
        have HB2:=HBK
        clear HBK CB
        go_wp2
        go_region_held3 (fun w'=>w'.cell? ⟨w3.heap.size+1,2,none⟩=some (.slice (some ⟨b1,off1,none⟩) ps.length cP)∧w'.cell? ⟨b1,off1+k * 2,none⟩=some (.string (bs nm1))∧w'.cell? ⟨b1,off1+k * 2+1,none⟩=some (.string (bs T1))) ((first|exact ⟨by assumption,by assumption,by assumption⟩|go_keep))
         ((go_at_call 26;refine (HB2.out m2 _ (by exact ⟨rfl,rfl,rfl,Nat.le_refl _,fun _ _ _=>rfl⟩)).mono ?_;rintro e w6 ⟨rfl,nv2,bv2,h6,n6⟩;have H6:Hid (NS ⟨w3.heap.size,l,some ⟨b,off,none⟩,cap,i⟩ w6 nv2 bv2 (V.take (k+1)) (V.take (k+1)) t (0,0)):=hide (by rw [HTK1.out];exact h6);have N6:Hid (Nf ⟨w3.heap.size,l,some ⟨b,off,none⟩,cap,i⟩ (.slice none 0 0) (.slice none 0 0) w4 nv2 bv2 w6):=hide (HF.out.trans ((Nf.of_kp ((Kp.refl _ _).drewN m2)).trans n6));have k6:Kp [w3.heap.size] w4 w6:=N6.out.kp;have a2:=(VF4.out.go k6 hw2).s2;obtain ⟨a0,a1⟩:=Sl.nthP (HP.out.keep ((K4.out.mono (by simp)).trans k6) hPd.out (fun d c h=>h)) HD1.out;clear h6 n6 k6))
        all_goals
         go_wp2
         go_roundw
         case rel=>exact ⟨k+1,by omega,by go_num,hide ⟨_,_,H6.out,N6.out⟩,hide (by rw [HTW2.out];rfl)⟩
         case measure=>simp [intOf];omega
      ·obtain rfl:k=ps.length:=by omega
       have d2:decide ((ps.length:Int)<(ps.length:Int))=false:=by simp
       have HNV:Hid (NS ⟨w3.heap.size,l,some ⟨b,off,none⟩,cap,i⟩ wr nv bv V V t (0,0)):=hide (by have:=HN'.out;rw [←HVl.out,List.take_length] at this;exact this)
       have HTW2:Hid (Kn.twiceP [] V=false):=hide (by rw [HTW.out,←HVl.out,List.drop_length];rfl)
       have hvl:Hid (V.length≤6):=hide (by rw [HVl.out];exact ty2)
       have CST:=hide (ST ⟨w3.heap.size,l,some ⟨b,off,none⟩,cap,i⟩ n wr P body aB cB nv bv V V t n (HB.out.keep KW.out hPd.out) (GL.keep HS.out KU.out) hil hll HPS.out HPg.out HOK.out hbl (Nat.le_refl _) (by have:=hvl.out;omega) (by omega) HNV.out)
       dsimp only at CST
       have HSG3:Hid (Kn.sg n (l.take i) V nm body t (-2 - (i:Int))=match Kn.sts n (l.take i) ⟨V,V,t⟩ body with
           | .inr f=> .inr f
           | .inl s=>if 30<s.bd.length then .inr (8,-2 - (i:Int)) else .inl s):=hide (by rw [HSG2.out,HTW2.out];rfl)
       have HAT:Hid (∀ s,Kn.sts n (l.take i) ⟨V,V,t⟩ body= .inl s→s.at'=t+Kn.cs n body):=hide (fun s hs=>(Kn.sts_go n _ _ _ _ hs).at')
       clear HTW HTW2 HSG2 HN'
       generalize hSTS:Kn.sts n (l.take i) ⟨V,V,t⟩ body=ST at *
       have HST:=hide hSTS
       clear hSTS
       go_wp2_with fail
       refine CST.out.mono ?_
       rintro e w5 ⟨rfl,hE⟩
       cases ST with
       |inr f=>
        obtain ⟨hf0,nv2,bv2,x,bd2,t2,h6,n6⟩:=hE
        have n7:=HF.out.trans n6
        have k7:Kp [w3.heap.size] w4 w5:=n7.kp
        have c5:w5.cell? ⟨w3.heap.size,5,none⟩=some (.int .i64 f.1):=h6.c5
        have c6:w5.cell? ⟨w3.heap.size,6,none⟩=some (.int .i64 f.2):=h6.c6
        have KX:Hid (Kp [] w w5):=hide (Kp.new (((K0.out.trans K4.out).mono (by simp)).trans k7) (by omega))
        obtain ⟨-,-,-,-,r05,r15,g05,g15⟩:=VF4.out.go k7 hw2
        have qf:(f.1 !=0)=true:=by simpa using hf0
        have HRf:Hid (RV= .inr f):=hide (hfl.out _ (by rw [HSG3.out]))
        clear h6 n6 n7 k7 HEQ HV2 HSG3 hfl CST HST HAT
        go_wp2
        go_region
        all_goals
         go_wp2
         refine bodyPost_ret (v:= .tuple #[.slice none 0 0,.agg #[.int .i64 f.1,.int .i64 f.2]]) (by simp [results,Tryz.results10,go_sem,r05,r15]) rfl ?_
         show VsP w RV _ _
         rw [HRf.out]
         exact ⟨rfl,(((KX.out.nb (by omega) _ _).nb (by omega) _ _)).drewN 1⟩
       |inl s=>
        obtain ⟨nv2,bv2,h6,n6⟩:=hE
        have n7:=HF.out.trans n6
        have k7:Kp [w3.heap.size] w4 w5:=n7.kp
        have kW:Kp [w3.heap.size] w3 w5:=(K4.out.mono (by simp)).trans k7
        have KX:Hid (Kp [] w w5):=hide (Kp.new ((K0.out.mono (by simp)).trans kW) (by omega))
        have V5:=hide (VF4.out.go k7 hw2)
        have hvr:=vr_own h6.ob
        obtain ⟨av,cv,hvv,-⟩:=id hvr
        subst hvv
        have hob: ∀ x,(Value.slice av s.bd.length cv).ownBlock=some x→w3.heap.size+1≤x∧x<w5.heap.size:=h6.ob.lt
        have c3:w5.cell? ⟨w3.heap.size,3,none⟩=some (.slice av s.bd.length cv):=h6.c3
        have c4:w5.cell? ⟨w3.heap.size,4,none⟩=some (.int .i64 s.at'):=h6.c4
        have c5:w5.cell? ⟨w3.heap.size,5,none⟩=some (.int .i64 0):=h6.c5
        have hsb:=h6.lb
        have hs5:=kW.size
        have hlt5:w3.heap.size<w5.heap.size:=h6.lt
        have KWh:=hide kW
        clear h6 n6 n7 k7 kW HF HNV CST
        by_cases h30:30<s.bd.length
        ·have d3:decide ((30:Int)<(s.bd.length:Int))=true:=by simp;omega
         have HRf:Hid (RV= .inr (8,-2 - (i:Int))):=hide (hfl.out _ (by rw [HSG3.out];dsimp only;rw [if_pos h30]))
         have HRF:=hide (rFn_any 8 (-2 - (i:Int)) w5)
         obtain ⟨-,-,-,-,r5,r6,g5,g6⟩:=V5.out
         clear HEQ HV2 HSG3 hfl h30 HAT HST
         go_wp2_with fail
         refine HRF.out.mono ?_
         rintro e w6 ⟨rfl,k5⟩
         have r05:=k5.some r5 (by simp)
         have r15:=k5.some r6 (by simp)
         have g05:=(k5.frozen (p:=⟨w.heap.size+1,0,none⟩) (World.block_lt_of_cell? _ _ r5) (by simp)).trans g5
         have g15:=(k5.frozen (p:=⟨w.heap.size+1,1,none⟩) (World.block_lt_of_cell? _ _ r6) (by simp)).trans g6
         have K5:=hide (KX.out.trans k5)
         clear k5
         go_wp2
         refine bodyPost_ret (v:= .tuple #[.slice none 0 0,.agg #[.int .i64 8,.int .i64 (-2 - (i:Int))]]) (by simp [results,Tryz.results10,go_sem,r05,r15]) rfl ?_
         show VsP w RV _ _
         rw [HRf.out]
         exact ⟨rfl,(K5.out.nb (by omega) _ _).nb (by omega) _ _⟩
        ·have d3:decide ((30:Int)<(s.bd.length:Int))=false:=by simp;omega
         have HEQ2:Hid (RS=Kn.stg n (i+1) s.at' (l.take (i+1)) (out++[s.bd]) (l.drop (i+1))):=hide (by rw [HEQ.out,HSG3.out,HTK.out];dsimp only;rw [if_neg h30])
         have hat':=HAT.out s rfl
         have HGF2:Hid (∃ b,Rn.gf n (i+1) s.at' (l.drop (i+1))= .inl b):=hide (by rw [hat'];exact HGF.out)
         have HT3:Hid (s.at'≤300):=hide (by rw [hat'];exact hcs)
         have hlo:=HI.out.lo
         have HO5:Hid (w5.ownsRow (w2.heap.size+1) 36 1 u5 i us):=hide (own_keepv HI.out.ow (fun x hx=>KWh.out.block x (HI.out.ow.lt x hx).2 (by have:=(HI.out.ow.lt x hx).2;simp;omega)))
         have R5:Hid (RR w2.heap.size w2.heap.size w5 u5 us out):=hide (HI.out.rr.keep KWh.out (fun x hx h2=>by simp at hx;omega) (fun b e=> .inl e))
         have hu5: ∀ x,u5.ownBlock=some x→x<w3.heap.size:=fun x e=>(HI.out.ow.lt x e).2
         have hl5: ∀ x,u5.ownBlock=some x→w2.heap.size+1≤x:=fun x e=>(HI.out.ow.lt x e).1
         have R6:Hid (RR w2.heap.size w2.heap.size w5 u5 (us++[.slice av s.bd.length cv]) (out++[s.bd])):=hide (R5.out.snoc hvr rfl (fun x o n c e=>by
          have h9:=hob x (by rw [e];rfl)
          exact ⟨by omega,by omega,h9.2,fun e'=>by have:=hu5 x e';omega⟩))
         have KWA:Hid (Kp [] WA w5):=hide (Kp.new ((HI.out.kp.mono (by simp)).trans KWh.out) (by omega))
         clear hvr hob HEQ HSG3 HAT HST hat' h30 R5 HGF hfl
         go_wp2_with (at_builtin;refine wpList_append_lies _ rfl _ _ 28 rfl (w2.heap.size+1) 36 i0 (.slice none 0 0) 1 24 Tryz.underlying28 hi0 hz0 hz1 hz2 rfl (by decide) _ _ _ rfl (by exact HO5.out.alloc _) ⟨w5.heap.size,0,none⟩ 1 1 [.slice av s.bd.length cv] rfl rfl (tnew w5 (.slice av s.bd.length cv) 36) (by intro u hu;simp at hu;subst hu;rfl) (by decide) (by unfold maxLen;omega) (by omega) (by simp;omega) _ rfl ?_)
         intro gg cap2 w7 hown hgrow hat hlt7
         have kb:Kp [] w5 (w5.alloc (.cells #[.slice av s.bd.length cv] 36)):=(Kp.refl _ _).alloc _
         have hgrow':(w5.alloc (.cells #[.slice av s.bd.length cv] 36)).grownBy w7 u5.ownBlock:=hgrow
         have kg:Kp u5.ownBlock.toList (w5.alloc (.cells #[.slice av s.bd.length cv] 36)) w7:=(Kp.refl _ _).grown hgrow' (fun k hk=> .inr (by rw [hk];simp))
         have M7:Hid (∀ M',M'=(l.take (i+1)).any Kn.isMain→MI w2.heap.size WA n l RS (i+1) s.at' (.slice (some ⟨gg,0,none⟩) (i+1) cap2) (us++[.slice av s.bd.length cv]) (out++[s.bd]) M' w7):=hide (fun M' hM'=>
          ⟨hown,(R6.out.keep kb (by simp) (fun b e=> .inl e)).keep kg (fun b hb _=>by simp at hb;exact .inr (.inr hb)) (fun b e=>by cases e;exact hat.imp id (fun e=>by rw [e];simp)),by simp [hlo],((KWA.out.trans kb).grown hgrow (fun k hk=> .inl (by have:=hl5 k hk;omega))),HEQ2.out,HGF2.out,HT3.out,hM',by have:=kg.size;have:=kb.size;omega⟩)
         have k57:Kp u5.ownBlock.toList w5 w7:=(kb.mono (by simp)).trans kg
         have hno: ∀ x,w3.heap.size≤x∨x<w2.heap.size+1→x ∉ u5.ownBlock.toList:=fun x hx hm=>by
          simp at hm
          have h1:=hu5 x hm
          have h2:=hl5 x hm
          omega
         have V7:=V5.out.keep k57 (hno _ (.inl (by omega))) (hno _ (.inr (by omega))) (hno _ (.inr (by omega)))
         have KP7:Hid (Kp (w3.heap.size::u5.ownBlock.toList) w3 w7):=hide ((KWh.out.mono (by simp)).trans (k57.mono (fun x hx=>List.mem_cons_of_mem _ hx)))
         have hPd7:Hid (∀ x,x ∈ w3.heap.size::u5.ownBlock.toList→ ¬ P x):=hide (fun x hx hp=>by
          have h1:=HPW.out x hp
          rcases List.mem_cons.1 hx with rfl|hx
          ·omega
          ·simp at hx
           have h2:=hl5 x hx
           omega)
         obtain ⟨z0,z2,-,-,-,-,-,-⟩:=V7
         clear hown hgrow hgrow' hat kb kg k57 hno c3 c4 c5 V5
         by_cases hnm:nm=[109,97,105,110]
         ·have em:((bs nm).toList == [109,97,105,110])=true:=by rw [bsl];simpa using hnm
          by_cases hp1:ps.length=1
          ·obtain ⟨b1,off1,nm1,T1,rfl,hd1,y0,y1⟩:=(HP.out.keep KP7.out hPd7.out (fun d c h=>h)).nth' 0 (by omega)
           have hps:ps=[Sx.tP nm1 T1]:=by
            match ps,hp1,hd1 with
            |[p],_,hd1=>simpa using hd1
           have y1':w7.cell? ⟨b1,off1+1,none⟩=some (.string (bs T1)):=by simpa using y1
           have HMM:Hid ((l.take (i+1)).any Kn.isMain=(M || (T1 == [114,105]))):=hide (by
            rw [HBG.out,HIM.out,hps]
            have:(nm == [109,97,105,110])=true:=by simpa using hnm
            rw [this]
            rfl)
           have e2:((bs T1).toList == [114,105])=(T1 == [114,105]):=by rw [bsl]
           have qp:((ps.length:Int) == 1)=true:=by rw [hp1];rfl
           have qn:(0:Int)<(ps.length:Int):=by omega
           clear hnm hp1 hps hd1 y0 y1 HBG HIM
           generalize (T1 == [114,105])=X at *
           cases X with
           |true=>
            have HX:=hide (M7.out true (by rw [HMM.out];simp))
            go_wp2
            go_roundw
            case rel=>exact ⟨i+1,_,_,_,true,by omega,by go_num,rfl,rfl,HX⟩
            case measure=>simp [intOf];omega
           |false=>
            have HX:=hide (M7.out M (by rw [HMM.out];simp))
            go_wp2
            go_roundw
            case rel=>exact ⟨i+1,_,_,_,M,by omega,by go_num,rfl,rfl,HX⟩
            case measure=>simp [intOf];omega
          ·have HX:=hide (M7.out M (by
            rw [HBG.out,HIM.out]
            rw [Kn.mainP_ne hp1];simp))
           have qp:((ps.length:Int) == 1)=false:=by simp;omega
           clear hnm hp1
           go_wp2
           go_roundw
           case rel=>exact ⟨i+1,_,_,_,M,by omega,by go_num,rfl,rfl,HX⟩
           case measure=>simp [intOf];omega
         ·have em:((bs nm).toList == [109,97,105,110])=false:=by rw [bsl];simpa using hnm
          have HX:=hide (M7.out M (by
           rw [HBG.out,HIM.out]
           have:(nm == [109,97,105,110])=false:=by simpa using hnm
           rw [this];simp))
          clear hnm
          go_wp2
          go_roundw
          case rel=>exact ⟨i+1,_,_,_,M,by omega,by go_num,rfl,rfl,HX⟩
          case measure=>simp [intOf];omega
    ·rw [ha]
     have HRf:Hid (RV= .inr (9,-2 - (i:Int))):=hide (by rw [HV2.out,HEQ.out,HSG.out,hs];rfl)
     have d2:decide ((0:Int)≤(k:Int))=true:=by simp
     have HRF:=hide (rFn_any 9 (-2 - (i:Int)) w4)
     clear AB HSG ha hs HEQ HV2
     go_wp2_with fail
     refine HRF.out.mono ?_
     rintro e w5 ⟨rfl,k5⟩
     have r05:=k5.some r04 (by simp)
     have r15:=k5.some r14 (by simp)
     have g05:=(k5.frozen (p:=⟨w.heap.size+1,0,none⟩) (World.block_lt_of_cell? _ _ r04) (by simp)).trans g04
     have g15:=(k5.frozen (p:=⟨w.heap.size+1,1,none⟩) (World.block_lt_of_cell? _ _ r14) (by simp)).trans g14
     have K5:=hide (K0.out.trans (K4.out.trans k5))
     clear k5
     go_wp2
     refine bodyPost_ret (v:= .tuple #[.slice none 0 0,.agg #[.int .i64 9,.int .i64 (-2 - (i:Int))]]) (by simp [results,Tryz.results10,go_sem,r05,r15]) rfl ?_
     show VsP w RV _ _
     rw [HRf.out]
     exact ⟨rfl,(K5.out.nb (by omega) _ _).nb (by omega) _ _⟩
   ·obtain rfl:i=l.length:=by omega
    have d1:decide ((l.length:Int)<(l.length:Int))=false:=by simp
    have hRS:RS= .inl out:=by have:=HI.out.eq;rw [List.drop_length] at this;exact this
    have hbg:M=l.any Kn.isMain:=by have:=HI.out.bg;rw [List.take_length] at this;exact this
    have HRV:Hid (RV=if M then .inl out else .inr (13,-1)):=hide (by rw [HV2.out,hRS,hbg])
    have hlo:=HI.out.lo
    have hgl:=HI.out.gl
    have HVV:Hid (VV wr u5 out):=hide (vv_own (by rw [hlo];exact HI.out.ow) HI.out.rr)
    obtain ⟨av,cv,hu5,-⟩:=HVV.out
    subst hu5
    clear hRS HV2 hlo hbg
    cases M with
    |true=>
     have HRf:Hid (RV= .inl out):=hide HRV.out
     clear HRV
     go_wp2
     refine bodyPost_ret (v:= .tuple #[.slice av out.length cv,.agg #[.int .i64 0,.int .i64 0]]) (by simp [results,Tryz.results10,go_sem,r0,r1]) rfl ?_
     show VsP w RV _ _
     rw [HRf.out]
     refine ⟨av,cv,rfl,?_,(K0.out.nb (by omega) _ _).nb (by omega) _ _⟩
     have kr:Kp [w.heap.size+1] wr ((wr.setCell ⟨w.heap.size+1,0,none⟩ (.int .i64 0)).setCell ⟨w.heap.size+1,1,none⟩ (.int .i64 0)):=(((Kp.refl [w.heap.size+1] wr).rb 0 _).rb 1 _)
     exact vv_keep HI.out.ow HI.out.lo HI.out.rr kr (by omega) (by omega)
    |false=>
     have HRf:Hid (RV= .inr (13,-1)):=hide HRV.out
     have HRF:=hide (rFn_any 13 (-1) wr)
     clear HRV
     go_wp2_with fail
     refine HRF.out.mono ?_
     rintro e w5 ⟨rfl,k5⟩
     have r05:=k5.some r0 (by simp)
     have r15:=k5.some r1 (by simp)
     have g05:=(k5.frozen (p:=⟨w.heap.size+1,0,none⟩) (World.block_lt_of_cell? _ _ r0) (by simp)).trans g0
     have g15:=(k5.frozen (p:=⟨w.heap.size+1,1,none⟩) (World.block_lt_of_cell? _ _ r1) (by simp)).trans g1
     have K5:=hide (K0.out.trans k5)
     clear k5
     go_wp2
     refine bodyPost_ret (v:= .tuple #[.slice none 0 0,.agg #[.int .i64 13,.int .i64 (-1)]]) (by simp [results,Tryz.results10,go_sem,r05,r15]) rfl ?_
     show VsP w RV _ _
     rw [HRf.out]
     exact ⟨rfl,(K5.out.nb (by omega) _ _).nb (by omega) _ _⟩
 ·rw [if_pos h0] at HV
  generalize Rn.told n l=F at *
  have qf:(F.1 !=0)=true:=by simpa using h0
  clear hN hT
  go_enter Tryz.func10,Tryz.ntmps10
  go_wp2_with fail
  refine CC.out.mono ?_
  rintro e w2 ⟨rfl,k2⟩
  have K2:=hide (KA.out.trans k2)
  have r0:w2.cell? ⟨w.heap.size+1,0,none⟩=some (.int .i64 0):=k2.some (by simp [go_sem]) (by simp)
  have r1:w2.cell? ⟨w.heap.size+1,1,none⟩=some (.int .i64 0):=k2.some (by simp [go_sem]) (by simp)
  have g0:w2.frozen? ⟨w.heap.size+1,0,none⟩=false:=(k2.frozen (p:=⟨w.heap.size+1,0,none⟩) (by simp) (by simp)).trans (by simp [go_sem])
  have g1:w2.frozen? ⟨w.heap.size+1,1,none⟩=false:=(k2.frozen (p:=⟨w.heap.size+1,1,none⟩) (by simp) (by simp)).trans (by simp [go_sem])
  have hl2:=World.block_lt_of_cell? _ _ r0
  clear k2
  go_wp2
  go_region
  all_goals
   go_wp2
   refine bodyPost_ret (v:= .tuple #[.slice none 0 0,.agg #[.int .i64 F.1,.int .i64 F.2]]) (by simp [results,Tryz.results10,go_sem,r0,r1,hl2]) rfl ?_
   show VsP w RV _ _
   rw [HV.out]
   exact ⟨rfl,(((K2.out.nb (by omega) _ _).nb (by omega) _ _).alloc _).drewN 1⟩
end Go.Proofs.YthcapfojofahkaaGreatDoor
