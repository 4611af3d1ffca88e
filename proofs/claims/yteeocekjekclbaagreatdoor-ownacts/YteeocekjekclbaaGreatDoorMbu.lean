import Derived.Test.YteeocekjekclbaaGreatDoorMbt
import Derived.BigRegion
import Derived.Deep.Cut
import Derived.Deep.CutRange
namespace Go.Proofs.YteeocekjekclbaaGreatDoor
open Go.RowKit
theorem Ow.nexts_at {p:Cd.Pr}: ∀ (n:Nat) (NX:List (List Int)),Ow.nexts p n=some NX→NX.length=n∧ ∀ k,k<n→Ow.next p k=NX[k]?
 |0,NX,h=>by cases h;exact ⟨rfl,fun k hk=>by omega⟩
 |n+1,NX,h=>by
  obtain ⟨l,h1,h2⟩:=obind h
  obtain ⟨x,h3,h4⟩:=obind h2
  cases h4
  obtain ⟨e1,e2⟩:=Ow.nexts_at n l h1
  refine ⟨by simp [e1],fun k hk=> ?_⟩
  by_cases e:k=n
  ·subst e
   rw [h3,←e1,List.getElem?_concat_length]
  ·rw [e2 k (by omega),List.getElem?_append_left (by omega)]
theorem Ow.acs_sub (p:Cd.Pr) {i n:Nat} (h:i≤n): ∀ a,a ∈ Ow.acs p i→a ∈ Ow.acs p n:=by
 induction n with
 |zero=>rw [show i=0 from by omega];exact fun a h=>h
 |succ n ih=>
  by_cases e:i=n+1
  ·rw [e];exact fun a h=>h
  ·exact fun a ha=>List.mem_append_left _ (ih (by omega) a ha)
theorem own_slice {B t z n:Nat} {w:World} {v:Value} {xs:List Value} (h:w.ownsRow B t z v n xs): ∃ a c,v= .slice a n c:=by
 rcases h.2 with ⟨h,h0⟩|⟨g,cap,cur,hv,hg,rest⟩
 ·exact ⟨none,0,by rw [h,h0]⟩
 ·exact ⟨_,cap,hv⟩
theorem NCo.start {q:PV} {p:Cd.Pr} {NX:List (List Int)} {w W:World} {g nb bb:Nat}
  (t:SB W w.heap.size [.string p.name,.slice q.av p.vars.length q.cv,.int .i64 p.params,.slice q.ab p.blocks.length q.cb,.slice q.ai p.ins.length q.ci])
  (c:SB W g [.string p.name,.slice q.av p.vars.length q.cv,.int .i64 p.params,.slice q.ab p.blocks.length q.cb,.slice q.ai p.ins.length q.ci,.slice (some ⟨nb,0,none⟩) p.ins.length p.ins.length,.slice none 0 0,.slice (some ⟨bb,0,none⟩) 1 1])
  (n:SB W nb (List.replicate p.ins.length (.slice none 0 0))) (b:SB W bb [.slice none 0 0])
  (hl:g<w.heap.size+4∧nb<w.heap.size+4∧bb<w.heap.size+4∧g ≠ nb∧g ≠ bb∧nb ≠ bb) (hg:w.heap.size<g∧w.heap.size<nb∧w.heap.size<bb) (be:Below w.heap.size w W):
  NCo g nb bb (w.heap.size+4) q p NX w (List.replicate p.ins.length (.slice none 0 0)) 0 (.slice none 0 0) (.slice none 0 0) [] [] (.slice none 0 0) [] W:=
 ⟨t,c,n,b,World.ownsRow_nil _ _ _ _,World.ownsRow_nil _ _ _ _,World.ownsRow_nil _ _ _ _,(fun j hj=>by cases hj),by simp,(fun k l hk=>by omega),(fun j hj=>by cases hj),hl,hg,be⟩
theorem nco_ends (q:PV) (p:Cd.Pr) (NX:List (List Int)) (w:World) (Z Z1:Array Value) (hZ: ∀ (k:Nat),k<p.ins.length→Z[k]? =some (Value.slice none 0 0)) (hZ1: ∀ (k:Nat),k<1→Z1[k]? =some (Value.slice none 0 0)):
  NCo (w.heap.size+1+1+1) (w.heap.size+1) (w.heap.size+1+1) (w.heap.size+4) q p NX w (List.replicate p.ins.length (.slice none 0 0)) 0 (.slice none 0 0) (.slice none 0 0) [] [] (.slice none 0 0) []
   ((((w.alloc (.cells #[.string p.name,.slice q.av p.vars.length q.cv,.int .i64 p.params,.slice q.ab p.blocks.length q.cb,.slice q.ai p.ins.length q.ci] 26)).alloc (.cells Z 76)).alloc (.cells Z1 76)).alloc (.cells #[.string p.name,.slice q.av p.vars.length q.cv,.int .i64 p.params,.slice q.ab p.blocks.length q.cb,.slice q.ai p.ins.length q.ci,.slice (some ⟨w.heap.size+1,0,none⟩) p.ins.length p.ins.length,.slice none 0 0,.slice (some ⟨w.heap.size+1+1,0,none⟩) 1 1] 80)).drew∧
  NCo (w.heap.size+1+1+1) (w.heap.size+1+1) (w.heap.size+1) (w.heap.size+4) q p NX w (List.replicate p.ins.length (.slice none 0 0)) 0 (.slice none 0 0) (.slice none 0 0) [] [] (.slice none 0 0) []
   ((((w.alloc (.cells #[.string p.name,.slice q.av p.vars.length q.cv,.int .i64 p.params,.slice q.ab p.blocks.length q.cb,.slice q.ai p.ins.length q.ci] 26)).alloc (.cells Z1 76)).alloc (.cells Z 76)).alloc (.cells #[.string p.name,.slice q.av p.vars.length q.cv,.int .i64 p.params,.slice q.ab p.blocks.length q.cb,.slice q.ai p.ins.length q.ci,.slice (some ⟨w.heap.size+1+1,0,none⟩) p.ins.length p.ins.length,.slice none 0 0,.slice (some ⟨w.heap.size+1,0,none⟩) 1 1] 80)).drew:=by
 have s1: ∀ (v:World) (o:Obj),(v.alloc o).heap.size=v.heap.size+1:=fun v o=>by simp
 have key: ∀ (A B:Array Value) (C:List Value) (u:World) (hu:u=w.alloc (.cells #[.string p.name,.slice q.av p.vars.length q.cv,.int .i64 p.params,.slice q.ab p.blocks.length q.cb,.slice q.ai p.ins.length q.ci] 26)) (n1 n2:Nat),(∀ k,k<n1→A[k]? =some (Value.slice none 0 0))→(∀ k,k<n2→B[k]? =some (Value.slice none 0 0))→
   SB (((u.alloc (.cells A 76)).alloc (.cells B 76)).alloc (.cells C.toArray 80)).drew w.heap.size [.string p.name,.slice q.av p.vars.length q.cv,.int .i64 p.params,.slice q.ab p.blocks.length q.cb,.slice q.ai p.ins.length q.ci]∧
   SB (((u.alloc (.cells A 76)).alloc (.cells B 76)).alloc (.cells C.toArray 80)).drew (w.heap.size+1) (List.replicate n1 (.slice none 0 0))∧
   SB (((u.alloc (.cells A 76)).alloc (.cells B 76)).alloc (.cells C.toArray 80)).drew (w.heap.size+1+1) (List.replicate n2 (.slice none 0 0))∧
   SB (((u.alloc (.cells A 76)).alloc (.cells B 76)).alloc (.cells C.toArray 80)).drew (w.heap.size+1+1+1) C∧Below w.heap.size w (((u.alloc (.cells A 76)).alloc (.cells B 76)).alloc (.cells C.toArray 80)).drew:=by
  intro A B C u hu n1 n2 hA hB
  have e1:u.heap.size=w.heap.size+1:=by rw [hu,s1]
  have m1:=sb_made u A n1 _ 76 hA
  have m2:=sb_made (u.alloc (.cells A 76)) B n2 _ 76 hB
  rw [e1] at m1
  rw [s1,e1] at m2
  refine ⟨?_,m1.keep (S:=[]) ((((Kp.refl _ _).alloc _).alloc _).drew) (by simp),m2.keep (S:=[]) (((Kp.refl _ _).alloc _).drew) (by simp),(SB.new _ _ (by rw [s1,s1,e1]) C 80).keep (S:=[]) ((Kp.refl _ _).drew) (by simp),?_⟩
  ·rw [hu]
   exact (SB.new w _ rfl _ 26).keep (S:=[]) (((((Kp.refl _ _).alloc _).alloc _).alloc _).drew) (by simp)
  ·rw [hu]
   exact (Kp.below (((((Kp.refl [] _).alloc _).alloc _).alloc _).alloc _).drew)
 obtain ⟨a1,a2,a3,a4,a5⟩:=key Z Z1 [.string p.name,.slice q.av p.vars.length q.cv,.int .i64 p.params,.slice q.ab p.blocks.length q.cb,.slice q.ai p.ins.length q.ci,.slice (some ⟨w.heap.size+1,0,none⟩) p.ins.length p.ins.length,.slice none 0 0,.slice (some ⟨w.heap.size+1+1,0,none⟩) 1 1] _ rfl p.ins.length 1 hZ hZ1
 obtain ⟨b1,b2,b3,b4,b5⟩:=key Z1 Z [.string p.name,.slice q.av p.vars.length q.cv,.int .i64 p.params,.slice q.ab p.blocks.length q.cb,.slice q.ai p.ins.length q.ci,.slice (some ⟨w.heap.size+1+1,0,none⟩) p.ins.length p.ins.length,.slice none 0 0,.slice (some ⟨w.heap.size+1,0,none⟩) 1 1] _ rfl 1 p.ins.length hZ1 hZ
 exact ⟨NCo.start a1 a4 a2 a3 (by omega) (by omega) a5,NCo.start b1 b4 b3 b2 (by omega) (by omega) b5⟩
set_option maxRecDepth 100000 in
set_option maxHeartbeats 8000000 in
theorem newCourse_ok {q:PV} {p:Cd.Pr} {w:World} (h:PC q p w) (NX:List (List Int)) (hN:Ow.nexts p p.ins.length=some NX) (hv:0<p.vars.length∧p.vars.length≤32) (hl:p.ins.length≤3000) (ha: ∀ x ∈ p.ins,x.args.length≤100000) (hc:(Ow.acs p p.ins.length).length≤100000) (hb: ∀ a ∈ Ow.acs p p.ins.length,0≤a.2.1∧a.2.1<32):
  Calls Tryz.prog 18 #[.agg #[.string p.name,.slice q.av p.vars.length q.cv,.int .i64 p.params,.slice q.ab p.blocks.length q.cb,.slice q.ai p.ins.length q.ci]] w fun e w'=> ∃ g,e= .returned (.pointer (some ⟨g,0,none⟩))∧CoX g q p NX (Ow.acs p p.ins.length) [Ow.rng (Ow.acs p p.ins.length).length] w'∧Below w.heap.size w w':=by
 obtain ⟨Z,hZ,mk⟩:=make_nils p.ins.length hl
 obtain ⟨i3,hi3,hz30,hz31,hz32⟩:=info_parts Tryz.infoN3
 obtain ⟨io,hio,hz40,hz41,hz42⟩:=info_parts Tryz.infoOact
 obtain ⟨Z1,hZ1,mk1'⟩:=make_nils 1 (by decide)
 have mk1: ∀ w:World,(Instr.makeSlice 77 (.int .i64 1) (.int .i64 1)).run Tryz.prog w= .ok (.slice (some ⟨w.heap.size,0,none⟩) 1 1) (w.alloc (.cells Z1 76)):=fun w=>mk1' w
 clear mk1'
 have hq1:((p.vars.length:Int)+32 - 1) / 32=1:=by omega
 have hq2:((p.vars.length:Int)+32 - 1).tdiv 32=1:=by rw [Int.tdiv_eq_ediv_of_nonneg (by omega)];omega
 have HE:=hide (nco_ends q p NX w Z Z1 hZ hZ1)
 have HP:=hide h
 have HN:=hide hN
 have HA:=hide ha
 have HC:=hide hc
 have HB:=hide hb
 clear h hN ha hc hb
 go_enter Tryz.func18,Tryz.ntmps18
 go_wp2
 go_cut [3] from 8 (fun v3 wx=> ∃ g nb bb:Nat,v3= .pointer (some ⟨g,0,none⟩)∧Hid (NCo g nb bb (w.heap.size+4) q p NX w (List.replicate p.ins.length (.slice none 0 0)) 0 (.slice none 0 0) (.slice none 0 0) [] [] (.slice none 0 0) [] wx))
 case first=>
  go_region
  all_goals
   go_wp2
   go_meet
   case rel=>first|exact ⟨_,_,_,rfl,hide HE.out.1⟩|exact ⟨_,_,_,rfl,hide HE.out.2⟩
 case rest=>
  obtain ⟨g,nb,bb,rfl,HG⟩:=hcut
  obtain ⟨hNl,hNx⟩:=Ow.nexts_at _ _ HN.out
  have HNX:=hide hNx
  have t4:=HG.out.t.cs 4 _ rfl
  have hwl:=HG.out.t.lt
  clear HE mk mk1 hZ hZ1 hq1 hq2 HN hNx
  go_wp2
  go_loopw [25] (fun iv wr=> ∃ (i:Nat) (us:List Value) (av bv va:Value) (L:List (Int × Int)),i≤p.ins.length∧iv= .int .i64 i∧Hid (NCo g nb bb (w.heap.size+4) q p NX w us i av bv (Ow.acs p i) (Ow.rng (Ow.acs p i).length) va L wr)) (fun iv _=>p.ins.length - (intOf iv).toNat)
  case atStart=>exact ⟨0,_,_,_,_,_,Nat.zero_le _,rfl,HG⟩
  case round=>
   obtain ⟨i,us,av,bv,va,L,hi,rfl,HI⟩:=hrel
   by_cases hlt:i<p.ins.length
   ·have d1:decide ((i:Int)<(p.ins.length:Int))=true:=by simp;omega
    obtain ⟨r,hr⟩: ∃ r,NX[i]? =some r:=⟨_,List.getElem?_eq_getElem (by omega)⟩
    have hnx:=(HNX.out i hlt).trans hr
    have hD:=HI.out.below (below_drewN (Below.refl _ _) 1:Below wr.heap.size wr wr.drew)
    obtain ⟨x,hx⟩: ∃ x,us[i]? =some x:=⟨_,List.getElem?_eq_getElem (by rw [HI.out.ul];exact hlt)⟩
    have t0:=HI.out.t.cs 0 _ rfl
    have t1:=HI.out.t.cs 1 _ rfl
    have t2:=HI.out.t.cs 2 _ rfl
    have t3:=HI.out.t.cs 3 _ rfl
    have t4:=HI.out.t.cs 4 _ rfl
    have k5:=HI.out.c.cs 5 _ rfl
    have n0:=HI.out.n.cs i x hx
    have nf:=HI.out.n.fz i
    have CN:Hid (Calls Tryz.prog 40 #[.agg #[.string p.name,.slice q.av p.vars.length q.cv,.int .i64 p.params,.slice q.ab p.blocks.length q.cb,.slice q.ai p.ins.length q.ci],.int .i64 i] wr.drew fun e w'=> ∃ v,e= .returned v∧ ∃ a c,v= .slice a r.length c∧w'.ownsRow (wr.drew.heap.size+2) 3 1 (.slice a r.length c) r.length (r.map (.int .i64))∧Below wr.drew.heap.size wr.drew w'):=hide ((next_ok (HP.out.keep hD.be) i r hnx hl).mono (fun e w' h=>by obtain ⟨a,c,h1,h2⟩:=h;exact ⟨_,h1,a,c,rfl,h2⟩))
    have HD:=hide hD
    have HSZ:Hid (w.heap.size+4≤wr.heap.size+2):=hide (by
     have e1:=HI.out.lt
     have e2:=HI.out.ge
     have e3:=HI.out.c.lt
     have e4:=HI.out.n.lt
     have e5:=HI.out.b.lt
     omega)
    have hi0:(0:Int)≤(i:Int):=by omega
    have hi1:(i:Int)<(p.ins.length:Int):=by omega
    have HR:=hide hr
    have HX:=hide hx
    clear hD hnx hr hx
    go_wp2
    go_cut [25] from 25 to 81 (fun v25 wx=>v25= .int .i64 i∧ ∃ us',Hid (NCo g nb bb (w.heap.size+4) q p NX w us' (i+1) av bv (Ow.acs p i) (Ow.rng (Ow.acs p i).length) va L wx))
    case first=>
     go_region_law ((refine step_call_ex rfl 40 #[.agg #[.string p.name,.slice q.av p.vars.length q.cv,.int .i64 p.params,.slice q.ab p.blocks.length q.cb,.slice q.ai p.ins.length q.ci],.int .i64 i] ?_ CN.out ?_;(focus (go_simp;done));rintro v w5 ⟨a5,c5,rfl,ho5,hb5⟩;have H5:=hide (HD.out.below hb5);have z5:=H5.out.c.cs 5 _ rfl;have y0:=H5.out.n.cs i x HX.out;have yf:=H5.out.n.fz i;have HO5:=hide ho5;have HB5:=hide hb5;clear ho5 hb5))
     all_goals
      have hf5:Far av bv (.slice a5 r.length c5):=fun j hj=>by
       have e1:wr.heap.size+2≤j:=own_blk HO5.out j (by rw [hj];simp)
       refine ⟨fun e=> ?_,fun e=> ?_⟩
       ·have:j<wr.heap.size:=own_lt HI.out.ao j e.symm
        omega
       ·have:j<wr.heap.size:=own_lt HI.out.bo j e.symm
        omega
      have HJ:=hide (H5.out.next hlt HR.out (own_down HO5.out HSZ.out) hf5)
      clear hf5 HO5 H5
      go_wp2
      go_meet
      case rel=>exact ⟨rfl,_,HJ⟩
    case rest=>
     obtain ⟨rfl,us',HJ⟩:=hcut
     have t0:=HJ.out.t.cs 0 _ rfl
     have t1:=HJ.out.t.cs 1 _ rfl
     have t2:=HJ.out.t.cs 2 _ rfl
     have t3:=HJ.out.t.cs 3 _ rfl
     have t4:=HJ.out.t.cs 4 _ rfl
     have CA:=hide (oActs_any q p (i:Int) wc (HP.out.keep HJ.out.be) HA.out)
     unfold PV.v PV.cells at CA
     clear HD CN HR HX HI n0 nf k5
     go_wp2_with fail
     refine CA.out.mono ?_
     rintro e w6 ⟨v6,rfl,ho6,hb6⟩
     obtain ⟨a6,c6,rfl⟩:=own_slice ho6
     have HSC:Hid (w.heap.size+4≤wc.heap.size):=hide (by
      have e1:=HJ.out.lt
      have e2:=HJ.out.ge
      have e3:=HJ.out.c.lt
      have e4:=HJ.out.n.lt
      have e5:=HJ.out.b.lt
      omega)
     have HK:=hide ((HJ.out.below hb6).acts (own_down ho6 HSC.out) (fun j hj=>by
      have e1:=own_blk ho6 j (by rw [hj];simp)
      refine ⟨fun e=> ?_,fun e=> ?_⟩
      ·have:=own_lt HJ.out.ao j e.symm;omega
      ·have:=own_lt HJ.out.bo j e.symm;omega))
     have HS6:Hid (w.heap.size+4≤w6.heap.size):=hide (Nat.le_trans HSC.out hb6.size)
     have HAS:Hid (Ow.acs p (i+1)=Ow.acs p i++(Cd.acts p i).map fun a=>(a.1,a.2,i)):=hide rfl
     generalize hL6:Cd.acts p (i:Int)=L6 at *
     have HLL:Hid ((Ow.acs p i).length+L6.length≤100000):=hide (by
      have h1:=Ow.acs_mono p (show i+1≤p.ins.length from hlt)
      have h2:=HC.out
      have h3:=congrArg List.length HAS.out
      rw [List.length_append,List.length_map] at h3
      omega)
     have HVV:Hid (∀ a ∈ L6,0≤a.2∧a.2<32):=hide (fun a ha=>HB.out (a.1,a.2,i) (Ow.acs_sub p (show i+1≤p.ins.length from hlt) _ (by rw [HAS.out];exact List.mem_append_right _ (List.mem_map.2 ⟨a,ha,rfl⟩))))
     clear hL6 ho6 hb6 HJ HSC CA t0 t1 t2 t3 t4 d1
     go_wp2
     go_loopw [41] (fun jv wx=> ∃ (j:Nat) (av bv:Value),j≤L6.length∧jv= .int .i64 j∧Hid (w.heap.size+4≤wx.heap.size)∧Hid (NCo g nb bb (w.heap.size+4) q p NX w us' (i+1) av bv (Ow.acs p i++(L6.take j).map fun a=>(a.1,a.2,i)) (Ow.rng ((Ow.acs p i).length+j)) (.slice a6 L6.length c6) L6 wx)) (fun jv _=>L6.length - (intOf jv).toNat)
     case atStart=>exact ⟨0,av,bv,Nat.zero_le _,rfl,HS6,by simpa using HK⟩
     case round=>
      obtain ⟨j,av,bv,hj,rfl,HSx,HM⟩:=hrel
      by_cases hjl:j<L6.length
      ·have d1:decide ((j:Int)<(L6.length:Int))=true:=by simp;omega
       obtain ⟨⟨xa,xv⟩,hx⟩: ∃ y,L6[j]? =some y:=⟨_,List.getElem?_eq_getElem hjl⟩
       have hxv:=HVV.out _ (List.mem_of_getElem? hx)
       dsimp only at hxv
       obtain ⟨ar,cr,er,hr⟩:=own_er HM.out.vo
       obtain ⟨rfl,rfl⟩:a6=ar∧c6=cr:=by simpa using er
       obtain ⟨gr,orr,rfl,hr2⟩:=hr (List.ne_nil_of_mem (List.mem_of_getElem? hx))
       obtain ⟨r0,r1⟩:=hr2 j _ hx
       dsimp only at r0 r1
       have hj0:(0:Int)≤(j:Int):=by omega
       have hj1:(j:Int)<(L6.length:Int):=by omega
       obtain ⟨aa,ca,rfl⟩:=own_slice HM.out.ao
       obtain ⟨ab,cb,rfl⟩:=own_slice HM.out.bo
       rw [Ow.rng_len] at HM
       have hq3:xv / 32=0:=by omega
       have hq4:xv.tdiv 32=0:=by rw [Int.tdiv_eq_ediv_of_nonneg hxv.1];omega
       have hAl:(Ow.acs p i++(L6.take j).map fun a=>(a.1,a.2,i)).length=(Ow.acs p i).length+j:=by simp;omega
       have HAX:Hid (Ow.acs p i++((L6.take (j+1)).map fun a=>(a.1,a.2,i))=(Ow.acs p i++(L6.take j).map fun a=>(a.1,a.2,i))++[(xa,xv,i)]):=hide (by rw [List.take_add_one,hx];simp)
       rw [hAl] at HM
       have hN1:(Ow.acs p i).length+j≤100000:=by have:=HLL.out;omega
       have hN2:L6.length≤100000:=by have:=HLL.out;omega
       clear hr hr2 er hx HK
       generalize (Ow.acs p i++(L6.take j).map fun a=>(a.1,a.2,i))=AC at *
       have HRN:Hid (Ow.rng ((Ow.acs p i).length+(j+1))=Ow.rng ((Ow.acs p i).length+j)++[(((Ow.acs p i).length+j:Nat):Int)]):=hide (Ow.rng_succ _)
       generalize (Ow.acs p i).length+j=N at *
       have HAL:=hide hAl
       clear hAl
       go_upto_region 10 with fail
       obtain ⟨W,hW⟩: ∃ W,wr.alloc (.cells #[.int .i64 xa,.int .i64 xv] 57)=W:=⟨_,rfl⟩
       have HW:=hide (HM.out.below (w':=W) (by rw [←hW];exact (Below.refl _ _).alloc (Nat.le_refl _) _))
       have HWz:Hid (wr.heap.size<W.heap.size):=hide (by rw [←hW];simp)
       have p0:W.cell? ⟨wr.heap.size,0,none⟩=some (.int .i64 xa):=by rw [←hW];simp [go_sem]
       have p1:W.cell? ⟨wr.heap.size,1,none⟩=some (.int .i64 xv):=by rw [←hW];simp [go_sem]
       rw [hW]
       clear hW
       have k6:=HW.out.c.cs 6 _ rfl
       have k7:=HW.out.c.cs 7 _ rfl
       have b0:=HW.out.b.cs 0 _ rfl
       have HWB:Hid (w.heap.size+4≤W.heap.size):=hide (by have:=HSx.out;have:=HWz.out;omega)
       go_cut [41] from 41 to 80 (fun v41 wx=>v41= .int .i64 j∧ ∃ (gn cap:Nat),Hid (NCo g nb bb (w.heap.size+4) q p NX w us' (i+1) (.slice aa N ca) (.slice (some ⟨gn,0,none⟩) (N+1) cap) AC (Ow.rng N++[(N:Int)]) (.slice (some ⟨gr,orr,none⟩) L6.length c6) L6 wx)∧wx.cell? ⟨wr.heap.size,0,none⟩=some (.int .i64 xa)∧wx.cell? ⟨wr.heap.size,1,none⟩=some (.int .i64 xv)∧Hid (w.heap.size+4≤wx.heap.size))
       case first=>
        have HOW:Hid ((W.alloc (.cells #[.int .i64 N] 3)).drew.ownsRow (w.heap.size+4) 3 1 (.slice ab N cb) N ((Ow.rng N).map (.int .i64))):=hide (by
         have h:=own_keep HW.out.bo (((Kp.refl [] _).alloc (.cells #[.int .i64 N] 3)).drew) (by simp)
         rw [Ow.rng_len] at h
         exact h)
        have HCN:Hid (∀ (j:Nat) u,([.int .i64 N]:List Value)[j]? =some u→(W.alloc (.cells #[.int .i64 N] 3)).drew.cell? ((⟨W.heap.size,0,none⟩:Addr).add j)=some u):=hide (cellOne W (.int .i64 N) 3)
        have kk:Kp [] W (W.alloc (.cells #[.int .i64 N] 3)):=(Kp.refl _ _).alloc _
        have k7a:=kk.some k7 (by simp)
        have k6a:=kk.some k6 (by simp)
        have b0a:=kk.some b0 (by simp)
        clear kk
        go_region_law ((refine step_append_lies _ rfl _ _ 76 rfl (w.heap.size+4) 3 i3 (.int .i64 0) 1 8 Tryz.underlying76 hi3 hz30 hz31 hz32 rfl (by decide) (.slice ab N cb) N ((Ow.rng N).map (.int .i64)) (by rfl) (by exact HOW.out) ⟨W.heap.size,0,none⟩ 1 1 [.int .i64 N] (by rfl) rfl (by exact HCN.out) (by intro u hu;simp at hu;subst hu;rfl) (by decide) (by unfold maxLen;omega) (by omega) (by have:=HWB.out;simp;omega) _ rfl ?_;intro gn cap w7 hown hgrow hat hlt7;have hk7:Kp (Value.slice ab N cb).ownBlock.toList W w7:=(((Kp.refl _ _).alloc _).drew).trans (Kp.of_grown hgrow);have nb7: ∀ k,k<w.heap.size+4→k ∉ (Value.slice ab N cb).ownBlock.toList:=(fun k hk hm=>by have:=own_blk HW.out.bo k hm;omega);have z7:=hk7.some k7 (nb7 g HW.out.lt.1);have z0:=hk7.some b0 (nb7 bb HW.out.lt.2.2.1);have zf:=(hk7.frozen (p:=⟨bb,0,none⟩) HW.out.b.lt (nb7 bb HW.out.lt.2.2.1)).trans (HW.out.b.fz 0);have HG7:=hide (HW.out.growB (x:=(N:Int)) (bv':= .slice (some ⟨gn,0,none⟩) (N+1) cap) hk7 (by rw [Ow.rng_len];exact hown) (hat.imp (fun e=>e.symm) (fun e=>⟨gn,rfl,by rw [e];simp⟩)));have HS7:=hide hk7.size;clear hown hgrow hat hlt7 hk7 nb7))
        all_goals
         have HNB: ¬ (Value.slice ab N cb).ownBlock=some wr.heap.size:=fun e=>by have h1:wr.heap.size<wr.heap.size:=own_lt HM.out.bo _ e.symm;omega
         have q0:=HG7.out.2 wr.heap.size 0 _ p0 HSx.out HNB
         have q1:=HG7.out.2 wr.heap.size 1 _ p1 HSx.out HNB
         have HG8:=hide HG7.out.1
         have HS8:Hid (w.heap.size+4≤(w7.setCell ⟨bb,0,none⟩ (.slice (some ⟨gn,0,none⟩) (N+1) cap)).heap.size):=hide (by have h1:=HWB.out;have h2:=HS7.out;have h3:(w7.setCell ⟨bb,0,none⟩ (.slice (some ⟨gn,0,none⟩) (N+1) cap)).heap.size=w7.heap.size:=(by simp [World.setCell]);rw [h3];exact Nat.le_trans h1 h2)
         clear HG7 HNB
         go_wp2
         go_meet
         case rel=>exact ⟨rfl,gn,cap,HG8,q0,q1,HS8⟩
       case rest=>
        obtain ⟨rfl,gn,cap,HQ,p0,p1,HSq⟩:=hcut
        have k6:=HQ.out.c.cs 6 _ rfl
        have HNW:Hid (∀ (k:Nat) u,([.int .i64 xa,.int .i64 xv,.int .i64 (i:Nat)]:List Value)[k]? =some u→(wc.alloc (.cells #[.int .i64 xa,.int .i64 xv,.int .i64 (i:Nat)] 83)).drew.cell? ((⟨wc.heap.size,0,none⟩:Addr).add k)=some u):=hide (by
         intro k u hu
         rw [add_off]
         exact (SB.new wc _ rfl [.int .i64 xa,.int .i64 xv,.int .i64 (i:Nat)] 83).cs k u hu)
        have HOA:Hid ((wc.alloc (.cells #[.int .i64 xa,.int .i64 xv,.int .i64 (i:Nat)] 83)).drew.ownsRow (w.heap.size+4) 83 3 (.slice aa N ca) N (AC.flatMap Ow.acl)):=hide (by
         have h:=own_keep HQ.out.ao (((Kp.refl [] _).alloc (.cells #[.int .i64 xa,.int .i64 xv,.int .i64 (i:Nat)] 83)).drew) (by simp)
         rw [HAL.out] at h
         exact h)
        have k6a:=((Kp.refl [] wc).alloc (.cells #[.int .i64 xa,.int .i64 xv,.int .i64 (i:Nat)] 83)).some k6 (by simp)
        clear b0 k7 HW HM HWz HWB r0 r1 hq3 hq4
        go_wp2
        go_region_law ((refine step_append_lies _ rfl _ _ 78 rfl (w.heap.size+4) 83 io (.agg #[.int .i64 0,.int .i64 0,.int .i64 0]) 3 24 Tryz.underlying78 hio hz40 hz41 hz42 rfl (by decide) (.slice aa N ca) N (AC.flatMap Ow.acl) (by rfl) (by exact HOA.out) ⟨wc.heap.size,0,none⟩ 1 1 [.int .i64 xa,.int .i64 xv,.int .i64 (i:Nat)] (by rfl) rfl (by exact HNW.out) (by intro u hu;simp at hu;rcases hu with rfl|rfl|rfl<;> rfl) (by decide) (by unfold maxLen;omega) (by omega) (by have:=HSq.out;simp;omega) _ rfl ?_;intro ga capa w8 hown hgrow hat hlt8;have hk8:Kp (Value.slice aa N ca).ownBlock.toList wc w8:=(((Kp.refl _ _).alloc _).drew).trans (Kp.of_grown hgrow);have nb8:g ∉ (Value.slice aa N ca).ownBlock.toList:=(fun hm=>by have:=own_blk HQ.out.ao g hm;have:=HQ.out.lt.1;omega);have z6:=hk8.some k6 nb8;have zf:=(hk8.frozen (p:=⟨g,6,none⟩) HQ.out.c.lt nb8).trans (HQ.out.c.fz 6);have HG8:=hide (HQ.out.growA (x:=(xa,xv,i)) (av':= .slice (some ⟨ga,0,none⟩) (N+1) capa) hk8 (by rw [HAL.out];exact hown) (hat.imp (fun e=>e.symm) (fun e=>⟨ga,rfl,by rw [e];simp⟩)));have HS8:=hide hk8.size;clear hown hgrow hat hlt8 hk8 nb8))
        all_goals
         have HS9:Hid (w.heap.size+4≤(w8.setCell ⟨g,6,none⟩ (.slice (some ⟨ga,0,none⟩) (N+1) capa)).heap.size):=hide (by have h1:=HSq.out;have h2:=HS8.out;have h3:(w8.setCell ⟨g,6,none⟩ (.slice (some ⟨ga,0,none⟩) (N+1) capa)).heap.size=w8.heap.size:=(by simp [World.setCell]);rw [h3];exact Nat.le_trans h1 h2)
         clear HS8
         go_wp2
         go_roundw
         case rel=>exact ⟨j+1,_,_,by omega,by go_num,HS9,by rw [HAX.out,HRN.out];exact HG8⟩
         case measure=>simp [intOf];omega
      ·obtain rfl:j=L6.length:=by omega
       have d1:decide ((L6.length:Int)<(L6.length:Int))=false:=by simp
       have HE:=HM.out
       rw [List.take_length,←HAS.out] at HE
       have HF:=hide HE
       clear HE
       go_wp2
       go_roundw
       case rel=>exact ⟨i+1,us',av,bv,_,L6,by omega,by go_num,by simpa [HAS.out] using HF⟩
       case measure=>simp [intOf];omega
   ·obtain rfl:i=p.ins.length:=by omega
    have d1:decide ((p.ins.length:Int)<(p.ins.length:Int))=false:=by simp
    go_wp2
    go_ret
    exact ⟨g,rfl,HI.out.cox HP.out hNl,HI.out.be⟩
end Go.Proofs.YteeocekjekclbaaGreatDoor
