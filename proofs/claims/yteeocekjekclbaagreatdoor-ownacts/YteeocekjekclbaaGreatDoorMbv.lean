import Derived.Test.YteeocekjekclbaaGreatDoorMbt
import Derived.Test.YteeocekjekclbaaGreatDoorMbu
import Derived.Deep.CutRange
import Derived.Deep.LoopGhost
import Derived.BigQuiet
namespace Go.Proofs.YteeocekjekclbaaGreatDoor
open Go.RowKit
theorem Ow.turnsGo_len {acts:List Ow.Ac}: ∀ (r:List Nat) (T R:List (Int × Int)),Ow.turnsGo acts T r=some R→R.length=T.length
 |[],T,R,h=>by cases h;rfl
 |k::r,T,R,h=>by
  obtain ⟨T2,h1,h2⟩:=obind h
  obtain ⟨a,t,-,-,-,-,-,rfl⟩:=Ow.turn1_some h1
  rw [Ow.turnsGo_len r _ _ h2,List.length_set]
theorem AH.start {T:List (Int × Int)} {n:Nat} {w w2:World} (hn:0<n) (hs:SB w2 w.heap.size (List.replicate n (.int .u64 0))) (ht:SB w2 (w.heap.size+1) (Ow.tcs T)) (hT:T.length=n) (hb:Below w.heap.size w w2) (F:Int):
  AH T n w ((List.replicate n 0).set 0 F) (.slice (some ⟨w2.heap.size,0,none⟩) 1 1) [0] (.slice (some ⟨w2.heap.size+1,0,none⟩) 0 0) [] (((w2.setCell ⟨w.heap.size,0,none⟩ (.int .u64 F)).alloc (.cells #[.int .i64 0] 3)).alloc (.cells #[] 3)):=by
 have k0:Kp [w.heap.size] w2 (w2.setCell ⟨w.heap.size,0,none⟩ (.int .u64 F)):=Kp.rb (Kp.refl _ _) _ _
 have k1:Kp [] (w2.setCell ⟨w.heap.size,0,none⟩ (.int .u64 F)) (((w2.setCell ⟨w.heap.size,0,none⟩ (.int .u64 F)).alloc (.cells #[.int .i64 0] 3)).alloc (.cells #[] 3)):=((Kp.refl _ _).alloc _).alloc _
 have l1:=ht.lt
 have e0:(w2.setCell ⟨w.heap.size,0,none⟩ (.int .u64 F)).heap.size=w2.heap.size:=by simp [World.setCell]
 have s1: ∀ (v:World) (o:Obj),(v.alloc o).heap.size=v.heap.size+1:=fun v o=>by simp
 generalize hW:w2.setCell ⟨w.heap.size,0,none⟩ (.int .u64 F)=W at *
 refine ⟨?_,(ht.keep k0 (by simp)).keep k1 (by simp),?_,?_,fun j hj e=> ?_,by simp,hT,(hb.trans (kp_below k0 hb.size (fun j hj=>by simp at hj;omega))).trans ((Kp.below k1).mono (by rw [e0];exact hb.size))⟩
 ·refine SB.keep (w:=W) ?_ k1 (by simp)
  rw [List.map_set,List.map_replicate,←hW]
  exact hs.set (u:= .int .u64 0) (by rw [List.getElem?_replicate,if_pos hn]) _
 ·have h1:=(World.ownsRow_lit (base:=w.heap.size+2) W #[.int .i64 0] 1 (by rw [e0];omega) (by unfold maxLen;omega) (e:=3) (size:=1) rfl).alloc (.cells #[] 3)
  rw [e0] at h1
  exact h1
 ·have h1:=World.ownsRow_lit (base:=w.heap.size+2) (W.alloc (.cells #[.int .i64 0] 3)) #[] 0 (by rw [s1,e0];omega) (by unfold maxLen;omega) (e:=3) (size:=1) rfl
  rw [s1,e0] at h1
  exact h1
 ·simp [Value.ownBlock] at hj e
  omega
set_option maxRecDepth 100000 in
set_option maxHeartbeats 8000000 in
theorem oAhead_ok {g:Nat} {q:PV} {p:Cd.Pr} {nx bd:List (List Int)} {ac:List Ow.Ac} {w:World} (h:CoX g q p nx ac bd w) (b:Nat) (band:List Nat) (hb:bd[b]? =some (band.map Int.ofNat)) (hl:p.ins.length≤3000) (hv:p.vars.length≤1000000) (hb2:b≤10000) (hll:band.length≤100000) (hnx: ∀ l ∈ nx,l.length≤100000) (R:List Int) (hR:Ow.ahead p nx ac b band=some R):
  Calls Tryz.prog 41 #[.pointer (some ⟨g,0,none⟩),.int .i64 b] w fun e w'=>e= .returned (.slice (some ⟨w.heap.size,0,none⟩) p.ins.length p.ins.length)∧SB w' w.heap.size (R.map (.int .u64))∧R.length=p.ins.length∧Below w.heap.size w w':=by
 obtain ⟨Z,hZ,mk⟩:=make_sets p.ins.length hl
 obtain ⟨i3,hi3,hz30,hz31,hz32⟩:=info_parts Tryz.infoN3
 unfold Ow.ahead at hR
 rcases oif hR with ⟨_,hR⟩|⟨hne,hR⟩
 ·cases hR
 obtain ⟨T,hT,hR⟩:=obind hR
 have hTl:T.length=p.ins.length:=(Ow.turnsGo_len _ _ _ hT).trans (by simp)
 have hn0:0<p.ins.length:=List.length_pos_iff.2 hne
 have d0:((p.ins.length:Int) == 0)=false:=by simp;omega
 have hb0:Below w.heap.size w (w.alloc (.cells Z 121)):=(Below.refl _ _).alloc (Nat.le_refl _) _
 have CT:=hide (oTurns_any (h.keep hb0) b band hb hl hll T hT)
 have c4:=h.cp.c4
 have HX:=hide h
 have HR:=hide hR
 have HT:=hide hT
 have HNX:=hide hnx
 have HZ:=hide hZ
 have HS0:=hide (sb_made w Z p.ins.length (.int .u64 0) 121 hZ)
 clear h hR hT hnx hb hZ hne
 go_enter Tryz.func41,Tryz.ntmps41
 go_wp2_with fail
 refine CT.out.mono ?_
 rintro e w1 ⟨rfl,hS1,hb1⟩
 have B1:=hide (btrans hb0 hb1)
 have CF:=hide (oFirst_any g q p b w1 (HX.out.cp.keep B1.out) hb2 hv)
 have S1:=hide (HS0.out.keep (Kp.of_below (S:=[]) hb1) (by simp))
 have T1:Hid (SB w1 (w.heap.size+1) (Ow.tcs T)):=hide (by have h:=hS1;rw [show (w.alloc (.cells Z 121)).heap.size=w.heap.size+1 from by simp] at h;exact h)
 clear hS1 hb1 hb0 HS0 CT
 go_wp2_with fail
 refine CF.out.mono ?_
 rintro e w2 ⟨rfl,hb2'⟩
 have B2:=hide (btrans B1.out hb2')
 have S2:=hide (S1.out.keep (Kp.of_below (S:=[]) hb2') (by simp))
 have T2:=hide (T1.out.keep (Kp.of_below (S:=[]) hb2') (by simp))
 have z0:=S2.out.cs 0 (.int .u64 0) (by rw [List.getElem?_replicate,if_pos hn0])
 have zf:=S2.out.fz 0
 clear hb2' B1 S1 T1 CF
 generalize hF:Ow.first p b=F at *
 clear hF
 have HA0:=hide (AH.start hn0 S2.out T2.out hTl B2.out F)
 clear S2 T2
 go_wp2
 go_loopg [7,8] 1000 (fun k wv lv wr=> ∃ (S W:List Int),Hid (Ow.waves p nx T k S W=some R)∧W.length≤100000∧Hid (AH T p.ins.length w S wv W lv [] wr))
 case atStart=>exact ⟨_,[0],HR,by decide,HA0⟩
 case round=>
  obtain ⟨S,W,HW,hWl,HA⟩:=hrel
  cases gk with
  |zero=>exact absurd HW.out (by simp [Ow.waves])
  |succ gk=>
   have hW:=HW.out
   unfold Ow.waves at hW
   by_cases hW0:W=[]
   ·rw [if_pos hW0] at hW
    cases hW
    subst hW0
    obtain ⟨aw,cw,rfl⟩:=own_slice HA.out.wo
    go_wp2
    go_ret
    exact ⟨rfl,HA.out.s,HA.out.sl,HA.out.be⟩
   ·rw [if_neg hW0] at hW
    obtain ⟨y,hy,hW⟩:=obind hW
    rcases oif hW with ⟨hyl,hW⟩|⟨_,hW⟩
    ·have hWp:0<W.length:=List.length_pos_iff.2 hW0
     obtain ⟨gw,cw,rfl,-,-⟩:=HA.out.wo.form hWp
     have dW:decide ((0:Int)<(W.length:Int))=true:=by simp;omega
     have HN:=hide hW
     have HY:=hide hy
     have HYL:=hide hyl
     clear hW hy hyl HW
     go_wp2
     go_loopg [8,40] W.length (fun k2 lv iv wr=> ∃ (i:Nat) (S2 L2:List Int),k2=W.length - i∧i≤W.length∧iv= .int .i64 i∧Hid (Ow.wave p nx T S2 L2 (W.drop i)=some y)∧Hid (AH T p.ins.length w S2 (.slice (some ⟨gw,0,none⟩) W.length cw) W lv L2 wr))
     case atStart=>exact ⟨0,S,[],rfl,Nat.zero_le _,rfl,by simpa using HY,HA⟩
     case round=>
      obtain ⟨i,S2,L2,rfl,hi,rfl,HV,HB⟩:=hrel
      by_cases hiW:i<W.length
      ·have d1:decide ((i:Int)<(W.length:Int))=true:=by simp;omega
       obtain ⟨x,hx⟩: ∃ x,W[i]? =some x:=⟨_,List.getElem?_eq_getElem hiW⟩
       have hv2:=HV.out
       rw [dropAt hx] at hv2
       unfold Ow.wave at hv2
       rcases oif hv2 with ⟨hx0,hv2⟩|⟨_,hv2⟩
       ·obtain ⟨l,hl1,hv3⟩:=obind hv2
        obtain ⟨t,ht1,hv4⟩:=obind hv3
        obtain ⟨z,hz1,hv5⟩:=obind hv4
        clear hv2 hv3 hv4
        obtain ⟨K,rfl⟩: ∃ K:Nat,x=K:=⟨x.toNat,by omega⟩
        rw [Int.toNat_natCast] at hl1 ht1 hz1
        have hzl:=Ow.wave_len _ _ _ _ hv5
        have r0:=HB.out.wo.cells (g:=gw) rfl i (.int .i64 (K:Int)) (by simp [hx])
        rw [add_off] at r0
        have hKl:K<p.ins.length:=by have:=(List.getElem?_eq_some_iff.1 ht1).1;omega
        obtain ⟨u5,g5,a5,c5,e5,h5⟩:=HX.out.n5
        subst e5
        obtain ⟨gn,on,rfl,h6⟩:=h5 (List.ne_nil_of_mem (List.mem_of_getElem? hl1))
        obtain ⟨ul,g6,h7⟩:=h6 K l hl1
        obtain ⟨al,cl,rfl,-⟩:=id h7
        have y5:=bsome HB.out.be g5
        have y6:=bsome HB.out.be g6
        have hK0:(0:Int)≤(K:Int):=by omega
        have hK1:(K:Int)<(nx.length:Int):=by have:=(List.getElem?_eq_some_iff.1 hl1).1;omega
        have hK2:(K:Int)<(p.ins.length:Int):=by omega
        have hi0:(0:Int)≤(i:Int):=by omega
        have hi1:(i:Int)<(W.length:Int):=by omega
        have hll1:=HNX.out l (List.mem_of_getElem? hl1)
        have HIR:=hide h7
        have HZ1:=hide hz1
        have HT1:=hide ht1
        have HV2:=hide hv5
        have HZL:Hid (z.2.length≤100000):=hide (Nat.le_trans hzl HYL.out)
        clear h5 h6 h7 hl1 ht1 hz1 hv5 hzl hx HV g5 g6
        go_wp2
        go_loopg [8,52] l.length (fun k3 lv jv wr=> ∃ (j:Nat) (S3 L3:List Int),k3=l.length - j∧j≤l.length∧jv= .int .i64 j∧Hid (Ow.ones p K t S3 L3 (l.drop j)=some z)∧Hid (AH T p.ins.length w S3 (.slice (some ⟨gw,0,none⟩) W.length cw) W lv L3 wr))
        case atStart=>exact ⟨0,S2,L2,rfl,Nat.zero_le _,rfl,by simpa using HZ1,HB⟩
        case round=>
         obtain ⟨j,S3,L3,rfl,hj,rfl,HO,HC⟩:=hrel
         by_cases hjl:j<l.length
         ·have d2:decide ((j:Int)<(l.length:Int))=true:=by simp;omega
          obtain ⟨x,hx⟩: ∃ x,l[j]? =some x:=⟨_,List.getElem?_eq_getElem hjl⟩
          have hv2:=HO.out
          rw [dropAt hx] at hv2
          unfold Ow.ones at hv2
          rcases oif hv2 with ⟨hx0,hv3⟩|⟨_,hv3⟩
          ·obtain ⟨z1,hz1,hv4⟩:=obind hv3
           obtain ⟨M,rfl⟩: ∃ M:Nat,x=M:=⟨x.toNat,by omega⟩
           rw [Int.toNat_natCast] at hz1
           obtain ⟨sa,hsa,hz2⟩:=obind hz1
           obtain ⟨sb,hsb,hz3⟩:=obind hz2
           obtain ⟨tc,tl⟩:=t
           have hlen:=Ow.ones_len _ _ _ _ hv4
           obtain ⟨gl,ol,rfl,y0⟩:=(HIR.out.keep HC.out.be).at hx
           obtain ⟨a8,c8,e8⟩:=own_slice HC.out.lo
           subst e8
           obtain ⟨q0,q1⟩:=Ow.tcs_at HT1.out
           dsimp only at q0 q1
           have t0:=HC.out.t.cs _ _ q0
           have t1:=HC.out.t.cs _ _ q1
           have s0:=HC.out.s.cs M (.int .u64 sa) (by rw [List.getElem?_map,hsa];rfl)
           have s1:=HC.out.s.cs K (.int .u64 sb) (by rw [List.getElem?_map,hsb];rfl)
           have hM:M<p.ins.length:=by have:=(List.getElem?_eq_some_iff.1 hsa).1;have:=HC.out.sl;omega
           have hM0:(0:Int)≤(M:Int):=by omega
           have hM1:(M:Int)<(p.ins.length:Int):=by omega
           have hj0:(0:Int)≤(j:Int):=by omega
           have hj1:(j:Int)<(l.length:Int):=by omega
           have CA:=hide (oAlong_any g q p K (M:Int) tc tl sb wr.drew ((HX.out.cp.keep HC.out.be).keep (below_drewN (Below.refl _ _) 1)) hKl (by omega))
           have HSA:=hide hsa
           have HZ3:=hide hz3
           have HV4:=hide hv4
           have HLN:Hid (z1.2.length≤100000):=hide (Nat.le_trans hlen HZL.out)
           clear hsa hsb hz1 hz2 hz3 hv2 hv3 hv4 hlen hx q0 q1 HO y5 y6 r0
           generalize Ow.along p (K:Int) (M:Int) (tc,tl) sb=AL at *
           generalize hJ:Ow.join [sa,AL]=J at *
           have HJ:=hide hJ
           clear hJ
           go_upto_region 14 with fail
           go_cut [13,52] from 52 to 88 (fun v13 v52 wx=>v13= .int .u64 J∧v52= .int .i64 j∧Hid (AH T p.ins.length w S3 (.slice (some ⟨gw,0,none⟩) W.length cw) W (.slice a8 L3.length c8) L3 wx))
           case first=>
            go_region_law ((first
             |(have hCJ:=CJ;clear hCJ;refine step_cex rfl 72 (args:= #[.slice (some ⟨w5.heap.size,0,none⟩) 2 2]) ?_ CJ.out ?_;(focus (go_simp;done));intro w6 h6;subst h6;clear CJ)
             |(refine step_cex rfl 73 (args:= #[.pointer (some ⟨g,0,none⟩),.int .i64 K,.int .i64 M,.agg #[.int .u64 tc,.int .u64 tl],.int .u64 sb]) ?_ CA.out ?_;(focus (go_simp;done));intro w5 hb5;have H5:=hide (HC.out.below (btrans (below_drewN (Below.refl _ _) 1) hb5));have z0:=bsome hb5 (show wr.drew.cell? _=_ from s0);have CJ:=hide (oJoin_any [sa,AL] (some ⟨w5.heap.size,0,none⟩) 2 (w5.alloc (.cells #[.int .u64 sa,.int .u64 AL] 121)) (two_ur w5 sa AL 121) (by simp));rw [HJ.out] at CJ;clear hb5)))
            all_goals
             have H6:=hide (H5.out.below ((Below.refl _ _).alloc (Nat.le_refl _) (.cells #[.int .u64 sa,.int .u64 AL] 121)))
             clear H5
             go_wp2
             go_meet
             case rel=>exact ⟨rfl,rfl,H6⟩
           case rest=>
            obtain ⟨rfl,rfl,HD⟩:=hcut
            have s0:=HD.out.s.cs M (.int .u64 sa) (by rw [List.getElem?_map,HSA.out];rfl)
            have sf:=HD.out.s.fz M
            clear t0 t1 s1 CA
            by_cases hJs:J=sa
            ·have hz:=HZ3.out
             rw [if_pos hJs] at hz
             cases hz
             subst hJs
             have dn:(J !=J)=false:=by simp
             go_wp2
             go_roundg (l.length - (j+1))
             case measure=>omega
             case rel=>exact ⟨j+1,S3,L3,rfl,by omega,by go_num,HV4,HD⟩
            ·have hz:=HZ3.out
             rw [if_neg hJs] at hz
             cases hz
             have dn:(J !=sa)=true:=by simpa using hJs
             have dn2:(J == sa)=false:=by simpa using hJs
             have HE:=hide (HD.out.set HSA.out J)
             have hL3:L3.length+1≤100000:=by have:=HLN.out;simpa using this
             go_upto_region 17 with fail
             obtain ⟨WE,hWE⟩: ∃ WE,wc.setCell ⟨w.heap.size,M,none⟩ (.int .u64 J)=WE:=⟨_,rfl⟩
             rw [hWE] at HE ⊢
             clear hWE
             have hwe:=HE.out.t.lt
             go_wp2_with (at_builtin;refine wpList_append_lies _ rfl _ _ 76 rfl (w.heap.size+2) 3 i3 (.int .i64 0) 1 8 Tryz.underlying76 hi3 hz30 hz31 hz32 rfl (by decide) _ _ _ rfl (by exact HE.out.lo.alloc _) ⟨WE.heap.size,0,none⟩ 1 1 [.int .i64 M] rfl rfl (cellOne WE _ 3) (by intro u hu;simp at hu;subst hu;rfl) (by decide) (by unfold maxLen;omega) (by omega) (by simp;omega) _ rfl ?_)
             intro gq cap w7 hown hgrow hat hlt7
             have hk7:Kp (Value.slice a8 L3.length c8).ownBlock.toList WE w7:=((Kp.refl _ _).alloc _).trans (Kp.of_grown hgrow)
             have HF:=hide (HE.out.grow (x:=(M:Int)) (lv':= .slice (some ⟨gq,0,none⟩) (L3.length+1) cap) hk7 hown (hat.imp (fun e=>e.symm) (fun e=>⟨gq,rfl,by rw [e];simp⟩)))
             clear hown hgrow hat hlt7 hk7
             go_wp2
             go_roundg (l.length - (j+1))
             case measure=>omega
             case rel=>exact ⟨j+1,_,_,rfl,by omega,by go_num,HV4,HF⟩
          ·cases hv3
         ·obtain rfl:j=l.length:=by omega
          have d2:decide ((l.length:Int)<(l.length:Int))=false:=by simp
          have hv2:=HO.out
          rw [List.drop_length] at hv2
          cases hv2
          go_wp2
          go_roundg (W.length - (i+1))
          case measure=>omega
          case rel=>exact ⟨i+1,S3,L3,rfl,by omega,by go_num,HV2,HC⟩
       ·cases hv2
      ·obtain rfl:i=W.length:=by omega
       have d1:decide ((W.length:Int)<(W.length:Int))=false:=by simp
       have hv2:=HV.out
       rw [List.drop_length] at hv2
       cases hv2
       have HC:=hide (HB.out.swap rfl)
       go_wp2
       go_quiet (fail)
       go_wp2
       go_roundg gk
       case measure=>omega
       case rel=>exact ⟨S2,L2,HN,HYL.out,hide (HC.out.below (below_drewN (Below.refl _ _) _))⟩
    ·cases hW
theorem Ow.judge1_some {ac:List Ow.Ac} {S B:List Int} {k:Nat} {y:List Int × List Int} (h:Ow.judge1 ac S B k=some y): ∃ a s z,ac[k]? =some a∧S[a.2.2]? =some s∧B[k]? =some z∧((s=0∧y=(S,B))∨(s ≠ 0∧(a.1=1∨a.1=2∨a.1=3∨a.1=4)∧0≤a.2.1∧a.2.1≤1000000∧(Ow.of s a.2.1=0∨Ow.of s a.2.1=1∨Ow.of s a.2.1=2∨Ow.of s a.2.1=3)∧y=(S.set a.2.2 (Ow.behind (Ow.and (0,0) a.1 a.2.1) s),B.set k (Ow.rule a.1 (Ow.of s a.2.1))))):=by
 obtain ⟨a,h1,h⟩:=obind h
 obtain ⟨s,h2,h⟩:=obind h
 obtain ⟨z,h3,h⟩:=obind h
 refine ⟨a,s,z,h1,h2,h3,?_⟩
 rcases oif h with ⟨h4,h⟩|⟨h4,h⟩
 ·cases h;exact .inl ⟨h4,rfl⟩
 ·rcases oif h with ⟨h5,h⟩|⟨_,h⟩
  ·cases h;exact .inr ⟨h4,h5.1,h5.2.1,h5.2.2.1,h5.2.2.2,rfl⟩
  ·cases h
set_option maxRecDepth 100000 in
set_option maxHeartbeats 8000000 in
theorem oJudge_ok {g:Nat} {q:PV} {p:Cd.Pr} {nx bd:List (List Int)} {ac:List Ow.Ac} {w0 w:World} (h:CoX g q p nx ac bd w0) (hw:Below w0.heap.size w0 w) (b:Nat) (band:List Nat) (hb:bd[b]? =some (band.map Int.ofNat)) (hl:p.ins.length≤3000) (hv:p.vars.length≤1000000) (hb2:b≤10000) (hll:band.length≤100000) (hnx: ∀ l ∈ nx,l.length≤100000)
  (bk:Nat) (B:List Int) (n:Nat) (hn:B.length=n) (hB:SB w bk (B.map (.int .i64))) (hk:w0.heap.size≤bk) (hne:band ≠ []) (R:List Int) (hR:Ow.judge p nx ac b band B=some R):
  Calls Tryz.prog 19 #[.pointer (some ⟨g,0,none⟩),.int .i64 b,.slice (some ⟨bk,0,none⟩) n n] w fun e w'=>e= .returned (.tuple #[])∧SB w' bk (R.map (.int .i64))∧R.length=n∧Below w0.heap.size w0 w':=by
 unfold Ow.judge at hR
 rw [if_neg hne] at hR
 obtain ⟨S,hS,hR⟩:=obind hR
 obtain ⟨y,hy,hR⟩:=obind hR
 cases hR
 have hx:=h.keep hw
 obtain ⟨u6,a6,⟨aa,ca,rfl,hac⟩⟩:=h.n6
 obtain ⟨u7,a7,⟨ab,cb,rfl,hbd⟩⟩:=h.n7
 obtain ⟨gb,ob',rfl,hbd2⟩:=hbd (List.ne_nil_of_mem (List.mem_of_getElem? hb))
 obtain ⟨ub,b1,b2⟩:=hbd2 b _ hb
 obtain ⟨ax,cx,rfl,-⟩:=id b2
 rw [List.length_map] at b1 b2
 have hb0:(0:Int)≤(b:Int):=by omega
 have hb1:(b:Int)<(bd.length:Int):=by have:=(List.getElem?_eq_some_iff.1 hb).1;omega
 have hbl:0<band.length:=List.length_pos_iff.2 hne
 have d0:((band.length:Int) == 0)=false:=by simp;omega
 have k7:=bsome hw a7
 have kb:=bsome hw b1
 have CA:=hide (oAhead_ok hx b band hb hl hv hb2 hll hnx S hS)
 have H6:=hide a6
 have H7:=hide a7
 have H1:=hide b1
 have HAC:=hide hac
 have HB2:=hide b2
 have HY:=hide hy
 have HW:=hide hw
 have HB:=hide hB
 have hbkl:=hB.lt
 clear hx h hac hbd hbd2 b2 hy hw hB hnx hb hS hne
 go_enter Tryz.func19,Tryz.ntmps19
 go_wp2_with fail
 refine CA.out.mono ?_
 rintro e w1 ⟨rfl,hS1,hSl,hb1'⟩
 have HB1:=hide (HB.out.keep (Kp.of_below (S:=[]) hb1') (by simp))
 have HS1:=hide hS1
 have HW1:=hide (HW.out.trans (hb1'.mono HW.out.size))
 have HSZ:=hide HW.out.size
 have k7:=bsome HW1.out H7.out
 have kb:=bsome HW1.out H1.out
 clear hS1 hb1' CA HB HW
 go_wp2
 go_loopg [31] band.length (fun k iv wr=> ∃ (i:Nat) (S' B':List Int),k=band.length - i∧i≤band.length∧iv= .int .i64 i∧Hid (Ow.judgeGo ac S' B' (band.drop i)=some y)∧S'.length=p.ins.length∧B'.length=n∧Hid (SB wr w.heap.size (S'.map (.int .u64)))∧Hid (SB wr bk (B'.map (.int .i64)))∧Hid (Below w0.heap.size w0 wr))
 case atStart=>exact ⟨0,S,B,rfl,Nat.zero_le _,rfl,by simpa using HY,hSl,hn,HS1,HB1,HW1⟩
 case round=>
  obtain ⟨i,S',B',rfl,hi,rfl,HG,hSl',hBl',HS,HBK,HE⟩:=hrel
  by_cases hlt:i<band.length
  ·have d1:decide ((i:Int)<(band.length:Int))=true:=by simp;omega
   obtain ⟨k,hk1⟩: ∃ k,band[i]? =some k:=⟨_,List.getElem?_eq_getElem hlt⟩
   have hg:=HG.out
   rw [dropAt hk1] at hg
   obtain ⟨y2,h2,h3⟩:=obind hg
   obtain ⟨⟨xa,xv,xi⟩,s,z,e1,e2,e3,e4⟩:=Ow.judge1_some h2
   dsimp only at e2 e4
   obtain ⟨gx,ox,rfl,y0⟩:=(HB2.out.keep HE.out).at (k:=i) (x:=(k:Int)) (by simp [hk1])
   obtain ⟨ga,oa,rfl,hac⟩:=HAC.out (List.ne_nil_of_mem (List.mem_of_getElem? e1))
   obtain ⟨z0,z1,z2⟩:=hac k (xa,xv,xi) e1
   have z0:=bsome HE.out z0
   have z1:=bsome HE.out z1
   have z2:=bsome HE.out z2
   have k6:=bsome HE.out H6.out
   have hi0:(0:Int)≤(i:Int):=by omega
   have hi1:(i:Int)<(band.length:Int):=by omega
   have hj0:(0:Int)≤(k:Int):=by omega
   have hj1:(k:Int)<(ac.length:Int):=by have:=(List.getElem?_eq_some_iff.1 e1).1;omega
   have hj2:(k:Int)<(n:Int):=by have:=(List.getElem?_eq_some_iff.1 e3).1;omega
   have hm0:(0:Int)≤(xi:Int):=by omega
   have hm1:(xi:Int)<(p.ins.length:Int):=by have:=(List.getElem?_eq_some_iff.1 e2).1;omega
   have s0:=HS.out.cs xi (.int .u64 s) (by rw [List.getElem?_map,e2];rfl)
   have hwl:=HS.out.lt
   have hwn: ¬ w.heap.size=wr.heap.size:=by omega
   have H3:=hide h3
   have HE2:=hide e2
   have HE3:=hide e3
   have hbA:Below wr.heap.size wr (wr.alloc (.cells #[.int .i64 xa,.int .i64 xv,.int .i64 (xi:Nat)] 83)):=(Below.refl _ _).alloc (Nat.le_refl _) _
   have s0a:=bsome hbA s0
   have HBA:=hide hbA
   have HE4:=hide e4
   clear hg h2 h3 hac e1 e2 e3 e4 hk1 hbA HG
   rcases HE4.out with ⟨rfl,rfl⟩|⟨hs0,c1,c2,c3,c4,rfl⟩
   ·have HS2:=hide (HS.out.keep (Kp.of_below (S:=[]) HBA.out) (by simp))
    have HB3:=hide (HBK.out.keep (Kp.of_below (S:=[]) HBA.out) (by simp))
    have HE3':=hide (HE.out.trans (HBA.out.mono HE.out.size))
    clear HE4
    go_wp2
    go_roundg (band.length - (i+1))
    case measure=>omega
    case rel=>exact ⟨i+1,S',B',rfl,by omega,by go_num,H3,hSl',hBl',HS2,HB3,HE3'⟩
   ·clear HE4
    have ds:(s == 0)=false:=by simpa using hs0
    have CO:=hide (oOf_any s xv (wr.alloc (.cells #[.int .i64 xa,.int .i64 xv,.int .i64 (xi:Nat)] 83)).drew c2 c3)
    have CR:=hide (oRule_any xa (Ow.of s xv) (wr.alloc (.cells #[.int .i64 xa,.int .i64 xv,.int .i64 (xi:Nat)] 83)).drew c1 c4)
    have CN:=hide (fun w'=>oAnd_any 0 0 xa xv w' c1 c2 c3)
    clear c4 hs0
    generalize Ow.rule xa (Ow.of s xv)=RU at *
    generalize Ow.of s xv=OS at *
    generalize Ow.and (0,0) xa xv=U at *
    obtain ⟨uc,ul⟩:=U
    have CB:=hide (fun w'=>oBehind_any uc ul s w')
    generalize Ow.behind (uc,ul) s=BE at *
    go_upto_region 8 with fail
    obtain ⟨W,hW⟩: ∃ W,wr.alloc (.cells #[.int .i64 xa,.int .i64 xv,.int .i64 (xi:Nat)] 83)=W:=⟨_,rfl⟩
    have p0:W.cell? ⟨wr.heap.size,0,none⟩=some (.int .i64 xa):=by rw [←hW];simp [go_sem]
    have p1:W.cell? ⟨wr.heap.size,1,none⟩=some (.int .i64 xv):=by rw [←hW];simp [go_sem]
    have p2:W.cell? ⟨wr.heap.size,2,none⟩=some (.int .i64 (xi:Nat)):=by rw [←hW];simp [go_sem]
    rw [hW] at HBA CO CR s0a ⊢
    clear hW
    have HS2:=hide (HS.out.keep (Kp.of_below (S:=[]) HBA.out) (by simp))
    have HB3:=hide (HBK.out.keep (Kp.of_below (S:=[]) HBA.out) (by simp))
    have HE5:=hide (HE.out.trans (HBA.out.mono HE.out.size))
    have b0:=HB3.out.cs k (.int .i64 z) (by rw [List.getElem?_map,HE3.out];rfl)
    have bf:=HB3.out.fz k
    have hkr: ¬ bk=wr.heap.size:=by have:=HBK.out.lt;omega
    have hkw: ¬ bk=w.heap.size:=by omega
    go_cut [31] from 31 to 71 (fun v31 wx=>v31= .int .i64 i∧wx.cell? ⟨wr.heap.size,0,none⟩=some (.int .i64 xa)∧wx.cell? ⟨wr.heap.size,1,none⟩=some (.int .i64 xv)∧wx.cell? ⟨wr.heap.size,2,none⟩=some (.int .i64 (xi:Nat))∧Hid (SB wx w.heap.size (S'.map (.int .u64)))∧Hid (SB wx bk ((B'.set k RU).map (.int .i64)))∧Hid (Below w0.heap.size w0 wx))
    case first=>
     go_region_law ((first
      |(have hdo:=doneOf;clear hdo;refine step_cex rfl 42 (args:= #[.int .i64 xa,.int .i64 OS]) ?_ CR.out ?_;(focus (go_simp;done));intro w6 h6;subst h6)
      |(refine step_cex rfl 43 (args:= #[.int .u64 s,.int .i64 xv]) ?_ CO.out ?_;(focus (go_simp;done));intro w6 h6;subst h6;have doneOf:Hid True:=hide trivial)))
     all_goals
      have kS:Kp [bk] W (W.drew.setCell ⟨bk,k,none⟩ (.int .i64 RU)):=Kp.rb ((Kp.refl _ _).drew) _ _
      have r0:=kS.some p0 (by simp;omega)
      have r1:=kS.some p1 (by simp;omega)
      have r2:=kS.some p2 (by simp;omega)
      have HS7:=hide (HS2.out.keep kS (by simp;omega))
      have HB7:Hid (SB (W.drew.setCell ⟨bk,k,none⟩ (.int .i64 RU)) bk ((B'.set k RU).map (.int .i64))):=hide (by
       rw [List.map_set]
       exact (HB3.out.keep (S:=[]) ((Kp.refl _ _).drew) (by simp)).set (u:= .int .i64 z) (by rw [List.getElem?_map,HE3.out];rfl) _)
      have HE7:=hide (HE5.out.trans (kp_below kS HE5.out.size (fun j hj=>by simp at hj;omega)))
      clear kS
      go_wp2
      go_meet
      case rel=>first|exact ⟨rfl,r0,r1,r2,HS7,HB7,HE7⟩|exact ⟨r0,r1,r2,HS7,HB7,HE7⟩
    case rest=>
     obtain ⟨rfl,p0,p1,p2,HS3,HB4,HE6⟩:=hcut
     have s0:=HS3.out.cs xi (.int .u64 s) (by rw [List.getElem?_map,HE2.out];rfl)
     have sf:=HS3.out.fz xi
     have CN1:=hide (CN.out wc.drew)
     clear b0 bf z0 z1 z2 k6 y0 CO CR CN s0a HS2 HB3 HE5 HBA HS HBK
     go_wp2
     go_region_law ((first
      |(have hdo:=H5;clear hdo;refine step_cex rfl 45 (args:= #[.agg #[.int .u64 uc,.int .u64 ul],.int .u64 s]) ?_ (CB.out w5) ?_;(focus (go_simp;done));intro w6 hb6;have m2:=bsome hb6 m2;have m0:=bsome hb6 m0;have m1:=bsome hb6 m1;have HS6:=hide (HS5.out.keep (Kp.of_below (S:=[]) hb6) (by simp));have c6:=HS6.out.cs xi (.int .u64 s) (by rw [List.getElem?_map,HE2.out];rfl);have f6:=HS6.out.fz xi;have H6':=hide (btrans H5.out hb6);clear hb6 H5 HS5)
      |(refine step_cex rfl 44 (args:= #[.agg #[.int .u64 0,.int .u64 0],.agg #[.int .i64 xa,.int .i64 xv]]) ?_ CN1.out ?_;(focus (go_simp;done));intro w5 hb5;have m0:=bsome hb5 (show wc.drew.cell? _=_ from p0);have m1:=bsome hb5 (show wc.drew.cell? _=_ from p1);have m2:=bsome hb5 (show wc.drew.cell? _=_ from p2);have H5:=hide (btrans (below_drewN (Below.refl _ _) 1) hb5);have HS5:=hide (HS3.out.keep (Kp.of_below (S:=[]) H5.out) (by simp));clear hb5)))
     all_goals
      have kS:Kp [w.heap.size] w6 (w6.setCell ⟨w.heap.size,xi,none⟩ (.int .u64 BE)):=Kp.rb (Kp.refl _ _) _ _
      have HB8:=hide ((HB4.out.keep (Kp.of_below (S:=[]) H6'.out) (by simp)).keep kS (by simp;omega))
      have HS8:Hid (SB (w6.setCell ⟨w.heap.size,xi,none⟩ (.int .u64 BE)) w.heap.size ((S'.set xi BE).map (.int .u64))):=hide (by
       rw [List.map_set]
       exact HS6.out.set (u:= .int .u64 s) (by rw [List.getElem?_map,HE2.out];rfl) _)
      have h6:Below w0.heap.size w0 w6:=HE6.out.trans (H6'.out.mono HE6.out.size)
      have HE8:=hide (h6.trans (kp_below kS h6.size (fun j hj=>by simp at hj;have:=HSZ.out;omega)))
      clear kS h6 HS6 H6'
      go_wp2
      go_roundg (band.length - (i+1))
      case measure=>omega
      case rel=>exact ⟨i+1,_,_,rfl,by omega,by go_num,H3,by simpa using hSl',by simpa using hBl',HS8,HB8,HE8⟩
  ·obtain rfl:i=band.length:=by omega
   have d1:decide ((band.length:Int)<(band.length:Int))=false:=by simp
   have hg:=HG.out
   rw [List.drop_length] at hg
   cases hg
   go_wp2
   go_end0
   first|exact ⟨rfl,HBK.out,hBl',HE.out⟩|exact ⟨rfl,HBK.out,HE.out⟩
def Ow.ncl (a:Int × Int × Int):List Value:=[.int .i64 a.1,.int .i64 a.2.1,.int .i64 a.2.2]
theorem Tryz.infoNote:(Tryz.prog.info? 47).map (fun i=>(i.zero,i.size,i.bytes))=some (some (.agg #[.int .i64 0,.int .i64 0,.int .i64 0]),3,24):=by kernel_rfl
theorem made_int (n k:Nat) (h:k<n):(madeCells #[Value.int .i64 0] n)[k]? =some (.int .i64 0):=by
 unfold madeCells
 rw [Array.getElem?_map]
 simp [h,Nat.mod_one]
theorem make_nums (n:Nat) (hn:n≤100000): ∃ Z:Array Value,(∀ k,k<n→Z[k]? =some (.int .i64 0))∧ ∀ w:World,(Instr.makeSlice 76 (.int .i64 (n:Int)) (.int .i64 (n:Int))).run Tryz.prog w= .ok (.slice (some ⟨w.heap.size,0,none⟩) n n) (w.alloc (.cells Z 3)):=by
 obtain ⟨i0,hi,hz0,hz1,hz2⟩:=info_parts Tryz.infoN3
 refine ⟨madeCells #[Value.int .i64 0] n,made_int n,fun w=> ?_⟩
 have:=run_make (P:=Tryz.prog) w 76 3 i0 (.int .i64 0) Tryz.underlying76 hi hz0 .i64 .i64 (n:Int) (n:Int) (by omega) (Int.le_refl _) (by rw [hz2];omega) (by omega)
 rw [hz1] at this
 simpa [Value.cells] using this
theorem Ow.told_at {ac:List Ow.Ac} {R:List Int} {i:Nat} {a:Ow.Ac} {r:Int} (h1:ac[i]? =some a) (h2:R[i]? =some r):Ow.told (ac.drop i) (R.drop i)=if r=0 then Ow.told (ac.drop (i+1)) (R.drop (i+1)) else (r,(a.2.2:Int),a.2.1)::Ow.told (ac.drop (i+1)) (R.drop (i+1)):=by
 rw [dropAt h1,dropAt h2]
 rfl
theorem three_new (w:World) (x y z:Value) (t:TypeId): ∀ (j:Nat) (u:Value),[x,y,z][j]? =some u→(w.alloc (.cells #[x,y,z] t)).cell? ((⟨w.heap.size,0,none⟩:Addr).add j)=some u:=fun k u hu=>by
 rw [add_off]
 exact (SB.new w _ rfl [x,y,z] t).cs k u hu
set_option maxRecDepth 100000 in
set_option maxHeartbeats 8000000 in
theorem oNotes_ok {q:PV} {p:Cd.Pr} {w:World} (h:PC q p w) (NX:List (List Int)) (hN:Ow.nexts p p.ins.length=some NX) (hv:0<p.vars.length∧p.vars.length≤32) (hl:p.ins.length≤3000) (ha: ∀ x ∈ p.ins,x.args.length≤100000) (hc:(Ow.acs p p.ins.length).length≤100000) (hc0:Ow.acs p p.ins.length ≠ []) (hb: ∀ a ∈ Ow.acs p p.ins.length,0≤a.2.1∧a.2.1<32) (hnx: ∀ l ∈ NX,l.length≤100000) (R:List Int) (hR:Ow.judge p NX (Ow.acs p p.ins.length) 0 (List.range (Ow.acs p p.ins.length).length) (List.replicate (Ow.acs p p.ins.length).length 0)=some R):
  Calls Tryz.prog 11 #[.agg #[.string p.name,.slice q.av p.vars.length q.cv,.int .i64 p.params,.slice q.ab p.blocks.length q.cb,.slice q.ai p.ins.length q.ci]] w fun e w'=> ∃ v,e= .returned v∧w'.ownsRow w.heap.size 47 3 v (Ow.told (Ow.acs p p.ins.length) R).length ((Ow.told (Ow.acs p p.ins.length) R).flatMap Ow.ncl)∧Below w.heap.size w w':=by
 obtain ⟨Z,hZ,mk⟩:=make_nums _ hc
 obtain ⟨i4,hi4,hz40,hz41,hz42⟩:=info_parts Tryz.infoNote
 have hb0:Below w.heap.size w (w.alloc (.cells #[.string p.name,.slice q.av p.vars.length q.cv,.int .i64 p.params,.slice q.ab p.blocks.length q.cb,.slice q.ai p.ins.length q.ci] 26)):=(Below.refl _ _).alloc (Nat.le_refl _) _
 have CN:=hide (newCourse_ok (h.keep hb0) NX hN hv hl ha hc hb)
 have HB0:=hide hb0
 have HNX:=hide hnx
 have HR:=hide hR
 have HZ:=hide hZ
 have hv2:p.vars.length≤1000000:=by omega
 clear h hN ha hb hnx hR hZ hb0 hv
 have hln:List.length (List.range (Ow.acs p p.ins.length).length)≤100000:=by simpa using hc
 have hrn:List.range (Ow.acs p p.ins.length).length ≠ []:=fun e=>hc0 (List.eq_nil_of_length_eq_zero (by simpa using congrArg List.length e))
 generalize Ow.acs p p.ins.length=AC at *
 go_enter Tryz.func11,Tryz.ntmps11
 go_wp2_with fail
 refine CN.out.mono ?_
 rintro e w1 ⟨g,rfl,hx,hb1⟩
 have HB1:=hide (btrans HB0.out hb1)
 have HX:=hide hx
 have HXn:=hide hx.n6
 obtain ⟨u6,a6,⟨aa,ca,rfl,hac⟩⟩:=hx.n6
 obtain ⟨u7,a7,⟨ab,cb,rfl,-⟩⟩:=hx.n7
 have HAC:=hide hac
 have HW2:=hide ((Below.refl w1.heap.size w1).alloc (Nat.le_refl _) (.cells Z 3))
 have S2:=hide (sb_made w1 Z AC.length (.int .i64 0) 3 HZ.out)
 have k6:=bsome HW2.out a6
 have k7:=bsome HW2.out a7
 have H6:=hide a6
 clear hx hb1 hac CN HB0
 go_wp2
 go_loopg [22] 1 (fun k iv wr=> ∃ (i:Nat) (B:List Int),k=1 - i∧i≤1∧iv= .int .i64 i∧(i=0→B=List.replicate AC.length 0)∧(i=1→B=R)∧B.length=AC.length∧Hid (SB wr w1.heap.size (B.map (.int .i64)))∧Hid (Below w1.heap.size w1 wr))
 case atStart=>exact ⟨0,List.replicate AC.length 0,rfl,Nat.zero_le _,rfl,fun _=>rfl,fun h=>by omega,by simp,by simpa using S2,HW2⟩
 case round=>
  obtain ⟨i,B,rfl,hi,rfl,hB0,hB1,hBl,HS,HE⟩:=hrel
  by_cases hlt:i=0
  ·subst hlt
   have hBe:=hB0 rfl
   subst hBe
   have CJ:=hide (oJudge_ok HX.out HE.out 0 (List.range AC.length) rfl hl hv2 (by decide) hln HNX.out w1.heap.size (List.replicate AC.length 0) AC.length (by simp) HS.out (Nat.le_refl _) hrn R HR.out)
   clear hB0 hB1
   go_wp2_with fail
   refine CJ.out.mono ?_
   rintro e w3 ⟨rfl,hS3,hRl,hE3⟩
   have HS3:=hide hS3
   have HE3:=hide hE3
   clear hS3 hE3 CJ
   go_wp2
   go_roundg 0
   case measure=>omega
   case rel=>exact ⟨1,R,rfl,Nat.le_refl _,by go_num,fun h=>by omega,fun _=>rfl,hRl,HS3,HE3⟩
  ·obtain rfl:i=1:=by omega
   have hBe:=hB1 rfl
   subst hBe
   clear hB0 hB1
   have k6:=bsome HE.out H6.out
   go_wp2
   go_loopg [6,35] AC.length (fun k nv iv wr=> ∃ (i:Nat) (N:List (Int × Int × Int)),k=AC.length - i∧i≤AC.length∧iv= .int .i64 i∧Hid (N++Ow.told (AC.drop i) (B.drop i)=Ow.told AC B)∧N.length≤i∧Hid (wr.ownsRow (w1.heap.size+1) 47 3 nv N.length (N.flatMap Ow.ncl))∧Hid (SB wr w1.heap.size (B.map (.int .i64)))∧Hid (Below w1.heap.size w1 wr))
   case atStart=>exact ⟨0,[],rfl,Nat.zero_le _,rfl,hide (by simp),Nat.zero_le _,hide (World.ownsRow_nil _ _ _ _),HS,HE⟩
   case round=>
    obtain ⟨i,N,rfl,hi,rfl,HN,hNl,HO,HS,HE⟩:=hrel
    by_cases hlt:i<AC.length
    ·have d1:decide ((i:Int)<(AC.length:Int))=true:=by simp;omega
     obtain ⟨⟨xa,xv,xi⟩,e1⟩: ∃ a,AC[i]? =some a:=⟨_,List.getElem?_eq_getElem hlt⟩
     obtain ⟨r,e2⟩: ∃ r,B[i]? =some r:=⟨_,List.getElem?_eq_getElem (by omega)⟩
     have hT:=Ow.told_at e1 e2
     dsimp only at hT
     obtain ⟨an,cn,en⟩:=own_slice HO.out
     subst en
     obtain ⟨ga,oa,rfl,hac⟩:=HAC.out (List.ne_nil_of_mem (List.mem_of_getElem? e1))
     obtain ⟨z0,z1,z2⟩:=hac i (xa,xv,xi) e1
     have z0:=bsome HE.out z0
     have z1:=bsome HE.out z1
     have z2:=bsome HE.out z2
     have s0:=HS.out.cs i (.int .i64 r) (by rw [List.getElem?_map,e2];rfl)
     have hi0:(0:Int)≤(i:Int):=by omega
     have hi1:(i:Int)<(AC.length:Int):=by omega
     have hwl:=HS.out.lt
     have hwn: ¬ w1.heap.size=wr.heap.size:=by omega
     have hbA:Below wr.heap.size wr (wr.alloc (.cells #[.int .i64 xa,.int .i64 xv,.int .i64 (xi:Nat)] 83)):=(Below.refl _ _).alloc (Nat.le_refl _) _
     have s0a:=bsome hbA s0
     have HBA:=hide hbA
     have HTT:=hide hT
     clear hac hbA hT e1 e2
     by_cases hr:r=0
     ·have dr:(r !=0)=false:=by simpa using hr
      have dr2:(r == 0)=true:=by simpa using hr
      have hN2:=HN.out
      rw [HTT.out,if_pos hr] at hN2
      have HN2:=hide hN2
      have HO2:=hide (own_keep HO.out (Kp.of_below (S:=[]) HBA.out) (by simp))
      have HS2:=hide (HS.out.keep (Kp.of_below (S:=[]) HBA.out) (by simp))
      have HE2:=hide (HE.out.trans (HBA.out.mono HE.out.size))
      subst hr
      clear hN2 HTT HBA
      go_wp2
      go_roundg (AC.length - (i+1))
      case measure=>omega
      case rel=>exact ⟨i+1,N,rfl,by omega,by go_num,HN2,by omega,HO2,HS2,HE2⟩
     ·have dr:(r !=0)=true:=by simpa using hr
      have dr2:(r == 0)=false:=by simpa using hr
      have hN2:=HN.out
      rw [HTT.out,if_neg hr,←List.singleton_append,←List.append_assoc] at hN2
      have HN2:=hide hN2
      clear hN2 HTT hr
      go_upto_region 13 with fail
      obtain ⟨W,hW⟩: ∃ W,wr.alloc (.cells #[.int .i64 xa,.int .i64 xv,.int .i64 (xi:Nat)] 83)=W:=⟨_,rfl⟩
      have p1:W.cell? ⟨wr.heap.size,1,none⟩=some (.int .i64 xv):=by rw [←hW];simp [go_sem]
      have p2:W.cell? ⟨wr.heap.size,2,none⟩=some (.int .i64 (xi:Nat)):=by rw [←hW];simp [go_sem]
      rw [hW] at HBA s0a ⊢
      clear hW
      have HO2:=hide (own_keep HO.out (Kp.of_below (S:=[]) HBA.out) (by simp))
      have HS2:=hide (HS.out.keep (Kp.of_below (S:=[]) HBA.out) (by simp))
      have HE2:=hide (HE.out.trans (HBA.out.mono HE.out.size))
      have HWl:Hid (w1.heap.size+1≤W.heap.size):=hide (by have:=HS2.out.lt;omega)
      have HOW:Hid ((W.alloc (.cells #[.int .i64 r,.int .i64 (xi:Nat),.int .i64 xv] 47)).drew.ownsRow (w1.heap.size+1) 47 3 (.slice an N.length cn) N.length (N.flatMap Ow.ncl)):=hide (own_keep HO2.out (((Kp.refl [] _).alloc _).drew) (by simp))
      have HNW:Hid (∀ (k:Nat) u,([.int .i64 r,.int .i64 (xi:Nat),.int .i64 xv]:List Value)[k]? =some u→(W.alloc (.cells #[.int .i64 r,.int .i64 (xi:Nat),.int .i64 xv] 47)).drew.cell? ((⟨W.heap.size,0,none⟩:Addr).add k)=some u):=hide (three_new W _ _ _ 47)
      go_region_law ((refine step_append_lies _ rfl _ _ 44 rfl (w1.heap.size+1) 47 i4 (.agg #[.int .i64 0,.int .i64 0,.int .i64 0]) 3 24 Tryz.underlying44 hi4 hz40 hz41 hz42 rfl (by decide) (.slice an N.length cn) N.length (N.flatMap Ow.ncl) (by rfl) (by exact HOW.out) ⟨W.heap.size,0,none⟩ 1 1 [.int .i64 r,.int .i64 (xi:Nat),.int .i64 xv] (by rfl) rfl (by exact HNW.out) (by intro u hu;simp at hu;rcases hu with rfl|rfl|rfl<;> rfl) (by decide) (by unfold maxLen;omega) (by omega) (by have:=HWl.out;simp;omega) _ rfl ?_;intro ga capa w8 hown hgrow hat hlt8;have hk8:Kp (Value.slice an N.length cn).ownBlock.toList W w8:=(((Kp.refl _ _).alloc _).drew).trans (Kp.of_grown hgrow);have nb8: ∀ k,k ∈ (Value.slice an N.length cn).ownBlock.toList→w1.heap.size+1≤k:=own_blk HO2.out;have HS8:=hide (HS2.out.keep hk8 (fun hm=>by have:=nb8 _ hm;omega));have HE8:=hide (HE2.out.trans (kp_below hk8 HE2.out.size (fun j hj=>by have:=nb8 _ hj;omega)));have HO8:Hid (w8.ownsRow (w1.heap.size+1) 47 3 (.slice (some ⟨ga,0,none⟩) (N.length+1) capa) (N++[(r,(xi:Int),xv)]).length ((N++[(r,(xi:Int),xv)]).flatMap Ow.ncl)):=hide (by rw [List.length_append,List.flatMap_append];exact hown);clear hown hgrow hat hlt8 hk8 nb8))
      all_goals
       clear HOW HNW HO2 HS2 HE2 HBA
       go_wp2
       go_roundg (AC.length - (i+1))
       case measure=>omega
       case rel=>exact ⟨i+1,_,rfl,by omega,by go_num,HN2,by simp;omega,HO8,HS8,HE8⟩
    ·obtain rfl:i=AC.length:=by omega
     have d1:decide ((AC.length:Int)<(AC.length:Int))=false:=by simp
     have hN2:=HN.out
     rw [List.drop_length] at hN2
     simp only [Ow.told,List.append_nil] at hN2
     subst hN2
     have HO3:=hide (own_down HO.out (B':=w.heap.size) (by have:=HB1.out.size;omega))
     have HE3:=hide (HB1.out.trans (HE.out.mono HB1.out.size))
     go_wp2
     go_ret
     exact ⟨_,rfl,HO3.out,HE3.out⟩
end Go.Proofs.YteeocekjekclbaaGreatDoor
