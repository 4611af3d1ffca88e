import Derived.Test.YtcdcoiobpbdmpaaGreatDoorMbd
import Derived.Test.YtcdcoiobpbdmpaaGreatDoorMbc
import Derived.Test.YtcdcoiobpbdmpaaGreatDoorMbm
namespace Go.Proofs.YtcdcoiobpbdmpaaGreatDoor
open Go.RowKit
def Rn.ptx (n:Nat) (l:List Sx.Tr):List UInt8:=if (Rn.told n l).1 ≠ 0 then [] else Rn.pt n l
set_option maxRecDepth 100000 in
set_option maxHeartbeats 2000000 in
theorem print_any (n:Nat) (w:World) (P:Nat→Prop) (l:List Sx.Tr) (a:Option Addr) (c:Nat) (hT:Tb w) (h:Sl (RG w P n) w P l (.slice a l.length c)) (hN:Nm n l):
  Calls Tryz.prog 38 #[.agg #[.slice a l.length c]] w fun e w'=>e= .returned (.tuple #[.string (bs (Rn.ptx n l)),.agg #[.int .i64 (Rn.told n l).1,.int .i64 (Rn.told n l).2]])∧Kp [] w w':=by
 have hg:Sl (RG w (fun b=>b<w.heap.size) n) w (fun b=>b<w.heap.size) l (.slice a l.length c):=h.base (fun b hb _=>hb) (fun d c h=>⟨h.base (fun b hb _=>hb),by obtain ⟨nm,at',ps,body,uP,uB,_,rfl,_⟩:=h;simp⟩)
 clear h
 have HK3:Hid (Kp [] w (((w.alloc (.cells #[.slice a l.length c] 24)).alloc (.cells #[.int .i64 0,.int .i64 0] 31)).alloc (.cells #[.int .i64 0] 136))):=hide ((((Kp.refl _ _).alloc _).alloc _).alloc _)
 have hsz:=hT.size
 have HC:=hide (rprogram_any n _ (fun b=>b<w.heap.size) l a c (w.heap.size+1+1) (hT.kp HK3.out) (hg.keep HK3.out (by simp) (fun d c h=>h.keep HK3.out (by simp))) hN (by omega) (by omega) (by simp [go_sem]) (by simp [go_sem]))
 have HT:=hide hT
 have HG:=hide hg
 have HN:=hide hN
 clear hT hg hN
 by_cases hf:(Rn.pf n l).1=0
 ·obtain ⟨p1,p2,p3,p4⟩:=Rn.pf_ok hf
  have hpl:=Rn.pt_len HG.out HN.out p3 p4
  have HP4:=hide p4
  rw [p1] at HC
  have et:Rn.told n l=if 12000<(Rn.pt n l).length then (1,-1) else (0,0):=by unfold Rn.told;rw [if_neg (by rw [hf];simp)]
  have ET:=hide et
  clear et p1 hf p4
  go_enter Tryz.func38,Tryz.ntmps38
  go_wp2_with fail
  refine HC.out.mono ?_
  rintro e w4 ⟨rfl,hk4⟩
  have K4:Hid (Kp [] w w4):=hide ((Kp.trans (Kp.of_nil HK3.out) hk4).new (by omega))
  have g0:w4.cell? ⟨w.heap.size,0,none⟩=some (.slice a l.length c):=hk4.some (by simp [go_sem]) (by simp;omega)
  have g1:w4.heap[w.heap.size+1]? =some (.cells #[.int .i64 0,.int .i64 0] 31 (0,0)):=by
   rw [hk4.block _ (by simp) (by simp),Below.heap_alloc _ _ _ (by simp)]
   have:=heap_alloc_new (w.alloc (.cells #[.slice a l.length c] 24)) (.cells #[.int .i64 0,.int .i64 0] 31)
   simpa using this
  have hb0:=World.block_lt_of_cell? _ _ g0
  have hb1:w.heap.size+1<w4.heap.size:=(Array.getElem?_eq_some_iff.1 g1).1
  clear hk4 HC HK3
  go_wp2_with fail
  generalize hW:w4.alloc (.cells #[.int .i64 0,.int .i64 0] 31)=W0
  have hpb:W0.heap.size=w4.heap.size+1:=by rw [←hW];simp
  have KW:Hid (Kp [] w W0):=hide (by rw [←hW];exact K4.out.alloc _)
  have G1:W0.heap[w.heap.size+1]? =some (.cells #[.int .i64 0,.int .i64 0] 31 (0,0)):=by rw [←hW,Below.heap_alloc _ _ _ hb1];exact g1
  have HS:=hide (HG.out.keep KW.out (by simp) (fun d c h=>h.keep KW.out (by simp)))
  have HT0:=hide (HT.out.kp KW.out)
  have HP0:Hid (PG W0 (w4.heap.size+1) [] 0 (W0.alloc (.cells #[.pointer none,.slice none 0 0,.int .i64 0] 142))):=hide (by have:=PG.new W0;rw [hpb] at this;exact this)
  have hcl:=Rn.cat_ge (g:=Rn.stt n) (fun d=>by unfold Rn.stt;simp) l
  clear hW g0 g1 hb0 K4
  have hpl':(Rn.cat (Rn.stt n) l).length≤100000000000000:=hpl
  go_loopw [18] (fun iv wr=> ∃ (i:Nat),i≤l.length∧iv= .int .i64 i∧Hid (PG W0 (w4.heap.size+1) (Rn.cat (Rn.stt n) (l.take i)) 0 wr)) (fun iv _=>l.length - (intOf iv).toNat)
  case atStart=>exact ⟨0,Nat.zero_le _,rfl,HP0⟩
  case round=>
   obtain ⟨i,hi,rfl,HQ⟩:=hrel
   by_cases hlt:i<l.length
   ·have d1:decide ((i:Int)<(l.length:Int))=true:=by simp;omega
    obtain ⟨b,off,nm,at',ps,body,uP,uB,rfl,-,hd,m0,m1,m2,m3,hP,hB⟩:=GL.nth HS.out i hlt
    obtain ⟨aP,cP,rfl,-⟩:=id hP
    obtain ⟨aB,cB,rfl⟩:=hB.slice
    obtain ⟨o1,o2⟩:=HP4.out _ (List.mem_of_getElem? hd)
    have n5:ps.length≤1000000:=HN.out.ps i _ hd
    have M0:=(HQ.out.kp []).some m0 (by simp)
    have M1:=(HQ.out.kp []).some m1 (by simp)
    have M2:=(HQ.out.kp []).some m2 (by simp)
    have M3:=(HQ.out.kp []).some m3 (by simp)
    have hk0:(0:Int)≤(i:Int):=by omega
    have hk1:(i:Int)<(l.length:Int):=by omega
    have e1:=Rn.cat_take (g:=Rn.stt n) hd
    have hle:=Rn.cat_le (Rn.stt n) l (i+1)
    rw [e1,List.length_append] at hle
    have E1:=hide e1
    have HX:=hide (pStage n W0 (w4.heap.size+1) _ _ _ nm at' ps body aP aB cP cB (HQ.out.alloc (.cells #[.string (bs nm),.int .i64 at',.slice aP ps.length cP,.slice aB body.length cB] 53)) HT0.out hP hB o2 n5 (by omega))
    clear hP hB o1 o2 n5 m0 m1 m2 m3 hd e1 hle
    go_wp2_with fail
    refine HX.out.mono ?_
    rintro e w6 ⟨rfl,h6,-⟩
    have H6:=hide h6
    clear h6
    go_wp2
    go_roundw
    case rel=>exact ⟨i+1,by omega,by go_num,by rw [E1.out];exact H6⟩
    case measure=>simp [intOf];omega
   ·obtain rfl:i=l.length:=by omega
    have d1:decide ((l.length:Int)<(l.length:Int))=false:=by simp
    rw [List.take_length] at HQ
    change Hid (PG W0 (w4.heap.size+1) (Rn.pt n l) 0 wr) at HQ
    have HLn:=hide (pLen HQ.out)
    have G2:wr.heap[w.heap.size+1]? =some (.cells #[.int .i64 0,.int .i64 0] 31 (0,0)):=((HQ.out.kp []).block _ (by omega) (by simp)).trans G1
    have y0:wr.cell? ⟨w.heap.size+1,0,none⟩=some (.int .i64 0):=by rw [Lib.cell_of_heap G2];rfl
    have y1:wr.cell? ⟨w.heap.size+1,1,none⟩=some (.int .i64 0):=by rw [Lib.cell_of_heap G2];rfl
    have f0:=Lib.frozen_of_heap G2 0
    have f1:=Lib.frozen_of_heap G2 1
    by_cases hlg:12000<(Rn.pt n l).length
    ·have d2:decide ((12000:Int)<((Rn.pt n l).length:Int))=true:=by simp;omega
     have ex:Rn.ptx n l=[]:=by unfold Rn.ptx;rw [ET.out,if_pos hlg];rfl
     go_wp2_with fail
     refine HLn.out.mono ?_
     rintro e w7 ⟨rfl,rfl⟩
     go_wp2
     refine bodyPost_ret (v:= .tuple #[.string (bs []),.agg #[.int .i64 1,.int .i64 (-1)]]) (by simp [results,Tryz.results38,go_sem,y0,y1];rfl) rfl ⟨by rw [ex,ET.out,if_pos hlg],?_⟩
     exact ((KW.out.trans (HQ.out.kp [])).nb (by omega) _ _).nb (by omega) _ _
    ·have d2:decide ((12000:Int)<((Rn.pt n l).length:Int))=false:=by simp;omega
     have ex:Rn.ptx n l=Rn.pt n l:=by unfold Rn.ptx;rw [ET.out,if_neg hlg];rfl
     have hnn:Rn.pt n l ≠ []:=by
      intro e
      have h1:0<l.length:=List.length_pos_iff.2 p2
      have h2:(Rn.cat (Rn.stt n) l)=[]:=e
      rw [h2] at hcl
      simp at hcl
      exact p2 hcl
     have HSt:=hide (pString HQ.out hnn)
     go_wp2_with fail
     refine HLn.out.mono ?_
     rintro e w7 ⟨rfl,rfl⟩
     go_wp2_with fail
     refine HSt.out.mono ?_
     rintro e w8 ⟨rfl,hb8,hf8⟩
     have G8:=hf8.heap G2 (by omega) (by decide)
     have x0:w8.cell? ⟨w.heap.size+1,0,none⟩=some (.int .i64 0):=by rw [Lib.cell_of_heap G8];rfl
     have x1:w8.cell? ⟨w.heap.size+1,1,none⟩=some (.int .i64 0):=by rw [Lib.cell_of_heap G8];rfl
     have u0:=Lib.frozen_of_heap G8 0
     have u1:=Lib.frozen_of_heap G8 1
     go_wp2
     refine bodyPost_ret (v:= .tuple #[.string (bs (Rn.pt n l)),.agg #[.int .i64 0,.int .i64 0]]) (by simp [results,Tryz.results38,go_sem,x0,x1]) rfl ⟨by rw [ex,ET.out,if_neg hlg],?_⟩
     exact ((KW.out.trans (Kp.of_below hb8)).nb (by omega) _ _).nb (by omega) _ _
 ·have et:Rn.told n l=Rn.pf n l:=by unfold Rn.told;rw [if_pos hf]
  have ex:Rn.ptx n l=[]:=by unfold Rn.ptx;rw [et,if_pos hf]
  rw [ex,et]
  have q1:((Rn.pf n l).1 !=0)=true:=by simpa using hf
  clear et ex hf
  generalize Rn.pf n l=F at *
  go_enter Tryz.func38,Tryz.ntmps38
  go_wp2_with fail
  refine HC.out.mono ?_
  rintro e w4 ⟨rfl,hk4⟩
  have K4:Hid (Kp [] w w4):=hide ((Kp.trans (Kp.of_nil HK3.out) hk4).new (by omega))
  have g1:w4.heap[w.heap.size+1]? =some (.cells #[.int .i64 0,.int .i64 0] 31 (0,0)):=by
   rw [hk4.block _ (by simp) (by simp),Below.heap_alloc _ _ _ (by simp)]
   have:=heap_alloc_new (w.alloc (.cells #[.slice a l.length c] 24)) (.cells #[.int .i64 0,.int .i64 0] 31)
   simpa using this
  have hb1:w.heap.size+1<w4.heap.size:=(Array.getElem?_eq_some_iff.1 g1).1
  have x0:w4.cell? ⟨w.heap.size+1,0,none⟩=some (.int .i64 0):=by rw [Lib.cell_of_heap g1];rfl
  have x1:w4.cell? ⟨w.heap.size+1,1,none⟩=some (.int .i64 0):=by rw [Lib.cell_of_heap g1];rfl
  have u0:=Lib.frozen_of_heap g1 0
  have u1:=Lib.frozen_of_heap g1 1
  have hne: ¬ w4.heap.size=w.heap.size+1:=by omega
  clear hk4 HC HK3
  go_wp2
  go_region
  go_wp2
  refine bodyPost_ret (v:= .tuple #[.string (bs []),.agg #[.int .i64 F.1,.int .i64 F.2]]) (by simp [results,Tryz.results38,go_sem,x0,x1,hb1];rfl) rfl ⟨rfl,?_⟩
  exact (((K4.out.nb (by omega) _ _).nb (by omega) _ _).alloc _).drew
structure FB (w:World) (v:Value) (wr:World):Prop where
 kp:Kp [] w wr
 bx:wr.cell? ⟨w.heap.size,0,none⟩=some v
 r0:wr.cell? ⟨w.heap.size+1,0,none⟩=some (.int .i64 0)
 r1:wr.cell? ⟨w.heap.size+1,1,none⟩=some (.int .i64 0)
 f0:wr.frozen? ⟨w.heap.size+1,0,none⟩=false
 f1:wr.frozen? ⟨w.heap.size+1,1,none⟩=false
theorem FB.go {w wr w':World} {v:Value} (h:FB w v wr) (hk:Kp [] wr w'):FB w v w':=
 ⟨h.kp.trans hk,hk.some h.bx (by simp),hk.some h.r0 (by simp),hk.some h.r1 (by simp),(hk.frozen (p:=⟨w.heap.size+1,0,none⟩) (World.block_lt_of_cell? _ _ h.r0) (by simp)).trans h.f0,(hk.frozen (p:=⟨w.heap.size+1,1,none⟩) (World.block_lt_of_cell? _ _ h.r1) (by simp)).trans h.f1⟩
theorem GL.keep {w w':World} {P:Nat→Prop} {n:Nat} {l:List Sx.Tr} {v:Value} (h:Sl (RG w P n) w P l v) (hk:Kp [] w w'):Sl (RG w' P n) w' P l v:=h.keep hk (by simp) (fun d c h=>h.keep hk (by simp))
theorem Rn.told_ok {n:Nat} {l:List Sx.Tr} (h:(Rn.told n l).1=0):(Rn.pf n l).1=0:=by
 by_cases hf:(Rn.pf n l).1=0
 ·exact hf
 ·unfold Rn.told at h
  rw [if_pos hf] at h
  exact h
set_option maxRecDepth 100000 in
set_option maxHeartbeats 1000000 in
theorem rcheck_any (n:Nat) (w:World) (P:Nat→Prop) (l:List Sx.Tr) (a:Option Addr) (c:Nat) (hT:Tb w) (h:Sl (RG w P n) w P l (.slice a l.length c)) (hN:Nm n l):
  Calls Tryz.prog 22 #[.agg #[.slice a l.length c]] w fun e w'=>e= .returned (.agg #[.int .i64 (Rn.told n l).1,.int .i64 (Rn.told n l).2])∧Kp [] w w':=by
 have K2:Hid (Kp [] w ((w.alloc (.cells #[.slice a l.length c] 24)).alloc (.cells #[.int .i64 0,.int .i64 0] 31))):=hide (((Kp.refl _ _).alloc _).alloc _)
 have HC:=hide (print_any n _ P l a c (hT.kp K2.out) (h.keep K2.out (by simp) (fun d c h=>h.keep K2.out (by simp))) hN)
 have B2:Hid (FB w (.slice a l.length c) ((w.alloc (.cells #[.slice a l.length c] 24)).alloc (.cells #[.int .i64 0,.int .i64 0] 31))):=hide ⟨K2.out,by simp [go_sem],by simp [go_sem],by simp [go_sem],by simp [go_sem],by simp [go_sem]⟩
 clear h hT hN K2
 generalize Rn.told n l=F at *
 go_enter Tryz.func22,Tryz.ntmps22
 go_wp2_with fail
 refine HC.out.mono ?_
 rintro e w3 ⟨rfl,hk3⟩
 obtain ⟨k5,-,r0,r1,f0,f1⟩:=B2.out.go hk3
 have hb4:=World.block_lt_of_cell? _ _ r0
 clear hk3 HC
 go_wp2
 refine bodyPost_ret (v:= .agg #[.int .i64 F.1,.int .i64 F.2]) (by simp [results,Tryz.results22,go_sem,r0,r1,hb4]) rfl ⟨rfl,?_⟩
 exact ((k5.nb (by omega) _ _).nb (by omega) _ _).alloc _
end Go.Proofs.YtcdcoiobpbdmpaaGreatDoor
namespace Go.Proofs.YtcdcoiobpbdmpaaGreatDoor
open Go.RowKit Go.Maps Go.ChangeMaps
theorem Tryz.infoVars:(Tryz.prog.info? 35).map (fun i=>(i.zero,i.size,i.bytes))=some (some (.slice none 0 0),1,24):=by kernel_rfl
def VsP (w:World) (r:Sum (List (List Kn.Nv)) (Int × Int)) (e:Ending) (w':World):Prop:=match r with
 | .inr f=>e= .returned (.tuple #[.slice none 0 0,.agg #[.int .i64 f.1,.int .i64 f.2]])∧f.1 ≠ 0∧Kp [] w w'
 | .inl R=> ∃ av cv AV g ma,e= .returned (.tuple #[.slice av R.length cv,.agg #[.int .i64 0,.int .i64 0]])∧w'.ownsRow (g+1) 35 1 (.slice av R.length cv) R.length (Kc.us AV R)∧RO w.heap.size g ma w' (.slice av R.length cv) R AV∧w.heap.size≤g∧Kp [] w w'
theorem CK.keepS {g ma na:Nat} {fa:List UInt8→Option Value} {w w':World} {t:Nat} {S:List Nat} (h:CK g ma na fa w t) (k:Kp S w w') (hg:g ∉ S) (hm:ma ∉ S):CK g ma na fa w' t:=by
 obtain ⟨a,n,c,h0⟩:=h.c0
 obtain ⟨m1,h1⟩:=h.c1
 obtain ⟨m2,h2⟩:=h.c2
 exact ⟨Nat.lt_of_lt_of_le h.lt k.size,⟨a,n,c,k.some h0 hg⟩,⟨m1,k.some h1 hg⟩,⟨m2,k.some h2 hg⟩,k.some h.c3 hg,k.some h.c4 hg,fun j=>(k.frozen (p:=⟨g,j,none⟩) h.lt hg).trans (h.fz j),h.mv.of_block (k.block _ h.mv.lt hm),h.lat⟩
structure VI (g ma:Nat) (WA:World) (P:Nat→Prop) (n:Nat) (l:List Sx.Tr) (R:Sum (List (List Kn.Nv)) (Int × Int)) (i t:Nat) (fa:List UInt8→Option Value) (av:Value) (AV:List (Option Addr × Nat)) (out:List (List Kn.Nv)) (B:Nat) (wr:World):Prop where
 ck:CK g ma i fa wr t
 ab:ABv ⟨g,0,0,ma,i,fa⟩ wr P (l.take i)
 ow:wr.ownsRow (g+1) 35 1 av i (Kc.us AV out)
 rr:RO B g ma wr av out AV
 lo:out.length=i
 kp:Kp [] WA wr
 eq:R=Kn.stg n i t (l.take i) out (l.drop i)
 gf: ∃ b,Rn.gf n i t (l.drop i)= .inl b
 t3:t≤300
theorem Kn.abv_mem {ab:List Sx.Tr} {x:List UInt8} {y:Sx.Tr} (h:Kn.abv ab x=some y):y ∈ ab:=by
 induction ab with
 |nil=>cases h
 |cons g r ih=>
  have h':(if Sx.gN g=x then some g else Kn.abv r x)=some y:=h
  split at h'
  ·obtain rfl:=Option.some.inj h';exact List.mem_cons_self
  ·exact List.mem_cons_of_mem _ (ih h')
theorem told_zero {n:Nat} {l:List Sx.Tr} (h:(Rn.told n l).1=0):Rn.told n l=(0,0):=by
 have hp:=Rn.told_ok h
 unfold Rn.told at h ⊢
 rw [if_neg (by simpa using hp)] at h ⊢
 split at h
 ·cases h
 ·rename_i h1;rw [if_neg h1]
theorem gf_of_pf {n:Nat} {l:List Sx.Tr} (h:(Rn.pf n l).1=0) (hne:l ≠ []) (hl:l.length≤10): ∃ b,Rn.gf n 0 0 l= .inl b:=by
 unfold Rn.pf at h
 rw [if_neg (fun e=>hne (List.length_eq_zero_iff.1 e)),if_neg (by omega)] at h
 cases hg:Rn.gf n 0 0 l with
 |inl b=>exact ⟨b,rfl⟩
 |inr f=>rw [hg] at h;exact absurd h (Rn.gf_ne n l 0 0 f hg)
set_option maxRecDepth 100000 in
set_option maxHeartbeats 4000000 in
theorem kVars_any (n:Nat) (w:World) (P:Nat→Prop) (l:List Sx.Tr) (a:Option Addr) (cap:Nat) (hT:Tb w) (h:Sl (RG w P n) w P l (.slice a l.length cap)) (hN:Nm n l) (hPw: ∀ b,P b→b<w.heap.size) (hlB: ∀ g ∈ l,(Sx.gB g).length≤1000000):
  Calls Tryz.prog 13 #[.agg #[.slice a l.length cap]] w (VsP w (Kn.vars n l)):=by
 have HS:=hide h
 have hmm:= @run_makeMap Tryz.prog
 have KA:Hid (Kp [] w ((w.alloc (.cells #[.slice a l.length cap] 24)).alloc (.cells #[.int .i64 0,.int .i64 0] 31))):=hide (((Kp.refl _ _).alloc _).alloc _)
 have CC:=hide (rcheck_any n _ P l a cap (hT.kp KA.out) (GL.keep h KA.out) hN)
 have HV:Hid (Kn.vars n l=if (Rn.told n l).1 ≠ 0 then .inr (Rn.told n l) else match Kn.stg n 0 0 [] [] l with
  | .inr f=> .inr f
  | .inl o=>if l.any Kn.isMain then .inl o else .inr (13,-1)):=rfl
 generalize Kn.vars n l=RV at *
 clear h
 by_cases h0:(Rn.told n l).1=0
 ·have hF:Rn.told n l=(0,0):=told_zero h0
  have HV2:Hid (RV=match Kn.stg n 0 0 [] [] l with
   | .inr f=> .inr f
   | .inl o=>if l.any Kn.isMain then .inl o else .inr (13,-1)):=hide (by rw [HV.out,if_neg (by simpa using h0)])
  rw [hF] at CC
  obtain ⟨-,hne,hl10,-⟩:=Rn.pf_ok (Rn.told_ok h0)
  obtain ⟨bg,hgf⟩:=gf_of_pf (Rn.told_ok h0) hne hl10
  have HHF:Hid (∀ g ∈ l,Rn.hf g=0∧Rn.okB n (Sx.gB g)):=hide (Rn.pf_ok (Rn.told_ok h0)).2.2.2
  have HCN:=hide (fun w' (hk:Kp [] w w')=>kContains_any n w' P l a cap (GL.keep HS.out hk) hl10 (fun g hg=>(Kn.hf_ty (HHF.out g hg).1).2.1))
  have HLB:=hide hlB
  obtain ⟨i0,hi0,hz0,hz1,hz2⟩:=info_parts Tryz.infoVars
  generalize hRS:Kn.stg n 0 0 [] [] l=RS at *
  have HRS:=hide hRS
  clear hN hT h0 hF HV hlB hRS
  go_enter Tryz.func13,Tryz.ntmps13
  go_wp2_with fail
  refine CC.out.mono ?_
  rintro e w2 ⟨rfl,k2⟩
  have KB:Hid (Kp [] ((w.alloc (.cells #[.slice a l.length cap] 24)).alloc (.cells #[.int .i64 0,.int .i64 0] 31)) (((w2.alloc (.cells #[.int .i64 0,.int .i64 0] 31)).alloc (.map #[] 0)).alloc (.cells #[.slice none 0 0,.map none,.map none,.map (some (w2.heap.size+1)),.int .i64 0] 83))):=hide (((k2.alloc _).alloc _).alloc _)
  have p4:(((w2.alloc (.cells #[.int .i64 0,.int .i64 0] 31)).alloc (.map #[] 0)).alloc (.cells #[.slice none 0 0,.map none,.map none,.map (some (w2.heap.size+1)),.int .i64 0] 83)).cell? ⟨w.heap.size,0,none⟩=some (.slice a l.length cap):=KB.out.some (by simp [go_sem]) (by simp)
  have hl2:w.heap.size+2≤w2.heap.size:=by have:=k2.size;simp at this;omega
  have V0:Hid (VI (w2.heap.size+1+1) (w2.heap.size+1) ((w.alloc (.cells #[.slice a l.length cap] 24)).alloc (.cells #[.int .i64 0,.int .i64 0] 31)) P n l RS 0 0 (fun _=>none) (.slice none 0 0) [] [] w.heap.size (((w2.alloc (.cells #[.int .i64 0,.int .i64 0] 31)).alloc (.map #[] 0)).alloc (.cells #[.slice none 0 0,.map none,.map none,.map (some (w2.heap.size+1)),.int .i64 0] 83))):=hide (by
   have hm:=MV.made (w2.alloc (.cells #[.int .i64 0,.int .i64 0] 31))
   rw [show (w2.alloc (.cells #[.int .i64 0,.int .i64 0] 31)).heap.size=w2.heap.size+1 from by simp] at hm
   refine ⟨⟨by simp,⟨none,0,0,by simp [go_sem]⟩,⟨none,by simp [go_sem]⟩,⟨none,by simp [go_sem]⟩,by simp [go_sem],by simp [go_sem],fun j=>by simp [go_sem],hm.of_block (Below.heap_alloc _ _ _ (by simp)),by decide⟩,⟨fun _ _=>rfl,fun x y hx=>by rw [List.take_zero] at hx;cases hx⟩,⟨rfl,.inl ⟨rfl,rfl⟩⟩,⟨rfl,fun k x a hx=>(by cases hx),fun k k2 x x2 a a2 _ hx=>(by cases hx)⟩,rfl,KB.out,by rw [List.take_zero];exact HRS.out.symm,⟨bg,hgf⟩,by decide⟩)
  clear k2 hgf
  generalize hWA:((w.alloc (.cells #[.slice a l.length cap] 24)).alloc (.cells #[.int .i64 0,.int .i64 0] 31))=WA at *
  have HA0:Hid (WA.cell? ⟨w.heap.size,0,none⟩=some (.slice a l.length cap)∧WA.cell? ⟨w.heap.size+1,0,none⟩=some (.int .i64 0)∧WA.cell? ⟨w.heap.size+1,1,none⟩=some (.int .i64 0)∧WA.frozen? ⟨w.heap.size+1,0,none⟩=false∧WA.frozen? ⟨w.heap.size+1,1,none⟩=false∧WA.heap.size=w.heap.size+2):=hide (by subst hWA;exact ⟨by simp [go_sem],by simp [go_sem],by simp [go_sem],by simp [go_sem],by simp [go_sem],by simp⟩)
  clear hWA KB
  go_wp2
  go_loopw [6,21] (fun tv iv wr=> ∃ (i t:Nat) (fa:List UInt8→Option Value) (AV:List (Option Addr × Nat)) (out:List (List Kn.Nv)),i≤l.length∧iv= .int .i64 i∧Hid (VI (w2.heap.size+1+1) (w2.heap.size+1) WA P n l RS i t fa tv AV out w.heap.size wr)) (fun _ iv _=>l.length - (intOf iv).toNat)
  case atStart=>exact ⟨0,0,_,_,_,Nat.zero_le _,rfl,V0⟩
  case round=>
   obtain ⟨i,t,fa,AV,out,hil,rfl,HI⟩:=hrel
   have K0:=hide (KA.out.trans HI.out.kp)
   by_cases hlt:i<l.length
   ·have d1:decide ((i:Int)<(l.length:Int))=true:=by simp;omega
    obtain ⟨b,off,nm,at',ps,body,uP,uB,rfl,hPb,hd,m0,m1,m2,m3,hP,hB⟩:=GL.nth (GL.keep HS.out K0.out) i hlt
    obtain ⟨aP,cP,rfl,-⟩:=id hP
    obtain ⟨aB,cB,rfl⟩:=hB.slice
    have hdr:l.drop i=Sx.tG nm at' ps body::l.drop (i+1):=drop_nth hd
    obtain ⟨bq,hgf⟩:=HI.out.gf
    rw [hdr] at hgf
    obtain ⟨hf1,hf2,hf3,hf4⟩:=Kn.gf_cons hgf
    change Rn.okB n body at hf2
    change Rn.gf n (i+1) (t+Kn.cs n body) _=_ at hf3
    change t≤300→t+Kn.cs n body≤300 at hf4
    have ht3:=HI.out.t3
    have hcs:=hf4 ht3
    obtain ⟨ty1,ty2,ty3⟩:=Kn.hf_ty hf1
    change nm.length≤12 at ty1
    change ps.length≤6 at ty2
    change Kn.Tyv (ps.map fun p=>((Sx.pH p).1,(Sx.pH p).2)) at ty3
    have hbl:body.length≤1000000:=HLB.out _ (List.mem_of_getElem? hd)
    have HP:=hide hP
    have HB:=hide hB
    have hgp: ∀ x y,Kn.abv (l.take i) x=some y→(Sx.gP y).length≤1000000:=fun x y hxy=>by
     have:=(Kn.hf_ty (HHF.out y (List.mem_of_mem_take (Kn.abv_mem hxy))).1).2.1
     omega
    have hfw:ps.length+2 * Kn.cs n body≤1000:=by omega
    have hft:t+Kn.cs n body≤100000:=by omega
    have hPg: ∀ b,P b→b<w2.heap.size+1+1∧b<w2.heap.size+1:=fun b hb=>by have:=hPw b hb;omega
    have hi10:i≤1000:=by omega
    have CS:=hide (fun W (hk:Kp [] wr W)=>kStage_any (w2.heap.size+1+1) (w2.heap.size+1) i fa W P n (l.take i) nm at' (-2 - (i:Int)) ps body aP aB cP cB t (HI.out.ck.kp hk) hi10 (HP.out.keep hk (by simp) (fun d c h=>h)) (HB.out.keep hk (by simp)) hf2 hbl ty1 (by omega) ty3 (HI.out.ab.keep hk (by simp)) hgp hPg hfw hft)
    have HEQ:Hid (RS=match Kn.sg n (l.take i) (ps.map fun p=>((Sx.pH p).1,(Sx.pH p).2)) nm body t (-2 - (i:Int)) with
     | .inr f=> .inr f
     | .inl s=>Kn.stg n (i+1) s.at' (l.take i++[Sx.tG nm at' ps body]) (out++[s.bd]) (l.drop (i+1))):=hide (by rw [HI.out.eq,hdr,Kn.stg_sg];rfl)
    have HTK:Hid (l.take (i+1)=l.take i++[Sx.tG nm at' ps body]):=hide (by rw [List.take_add_one,hd];rfl)
    have HNW:Hid (∀ s,Kn.sg n (l.take i) (ps.map fun p=>((Sx.pH p).1,(Sx.pH p).2)) nm body t (-2 - (i:Int))= .inl s→Kn.abv (l.take i) nm=none∧s.at'=t+Kn.cs n body):=hide (fun s hs=>⟨(Kn.sg_new hs).1,(Kn.sts_go n _ _ body s (Kn.sg_new hs).2).at'⟩)
    have HF3:=hide hf3
    have hk0:(0:Int)≤(i:Int):=by omega
    have hk1:(i:Int)<(l.length:Int):=by omega
    have hwr:wrap64 (-2 - (i:Int))= -2 - (i:Int):=by simp only [wrap64];omega
    generalize Kn.sg n (l.take i) (ps.map fun p=>((Sx.pH p).1,(Sx.pH p).2)) nm body t (-2 - (i:Int))=SG at *
    clear hP hB hd hdr hgf hf1 hf2 hf3 hf4 ty1 ty3 hgp hfw hft
    go_wp2_with fail
    refine (CS.out _ ((Kp.refl _ _).alloc _)).mono ?_
    intro e w5 hp
    cases SG with
    |inr f=>
     obtain ⟨rfl,hf0,k5⟩:=hp
     obtain ⟨x1,x2,x3,x4,x5,x6⟩:=HA0.out
     have K5:Hid (Kp [] w w5):=hide (Kp.new (Kp.new (((K0.out.alloc _).mono (by simp)).trans k5) (by omega)) (by omega))
     have KW:Hid (Kp [] WA w5):=hide (Kp.new (Kp.new (((HI.out.kp.alloc _).mono (by simp)).trans k5) (by omega)) (by omega))
     have r0:=KW.out.some x2 (by simp)
     have r1:=KW.out.some x3 (by simp)
     have g0:=(KW.out.frozen (p:=⟨w.heap.size+1,0,none⟩) (by show w.heap.size+1<_;omega) (by simp)).trans x4
     have g1:=(KW.out.frozen (p:=⟨w.heap.size+1,1,none⟩) (by show w.heap.size+1<_;omega) (by simp)).trans x5
     have hl5:=World.block_lt_of_cell? _ _ r0
     have qf:(f.1 !=0)=true:=by simpa using hf0
     have HRf:Hid (RV= .inr f):=hide (by rw [HV2.out,HEQ.out])
     clear k5 x1 x2 x3 x4 x5 x6 HEQ HNW HV2 HF3
     go_wp2
     go_region
     all_goals
      go_wp2
      refine bodyPost_ret (v:= .tuple #[.slice none 0 0,.agg #[.int .i64 f.1,.int .i64 f.2]]) (by simp [results,Tryz.results13,go_sem,r0,r1,hl5]) rfl ?_
      show VsP w RV _ _
      rw [HRf.out]
      exact ⟨rfl,hf0,(((K5.out.nb (by omega) _ _).nb (by omega) _ _).alloc _).drewN 1⟩
    |inl s=>
     obtain ⟨rfl,k5,hck,av,cv,hv0,hvr,hvb⟩:=hp
     obtain ⟨hnn,hat'⟩:=HNW.out s rfl
     have kA:=(Kp.refl [] wr).alloc (.cells #[.string (bs nm),.int .i64 at',.slice aP ps.length cP,.slice aB body.length cB] 53)
     have HO5:Hid (w5.ownsRow (w2.heap.size+1+1+1) 35 1 u6 i (Kc.us AV out)):=hide (own_keepv (own_keepv HI.out.ow (fun b hb=>kA.block b (HI.out.ow.lt b hb).2 (by simp))) (fun b hb=>k5.block b (Nat.lt_of_lt_of_le (HI.out.ow.lt b hb).2 kA.size) (by have:=(HI.out.ow.lt b hb).1;simp;omega)))
     have hu6: ∀ b,u6.ownBlock=some b→b<wr.heap.size:=fun b e=>(HI.out.ow.lt b e).2
     have hwl:=K0.out.size
     have R6:Hid (RO w.heap.size (w2.heap.size+1+1) (w2.heap.size+1) w5 u6 (out++[s.bd]) (AV++[(av,cv)])):=hide (((HI.out.rr.keep kA (by simp) (fun b e=> .inl e)).keep k5 (fun b hb=>by simp at hb;rcases hb with h|h;exact .inl (by omega);exact .inr (.inl h)) (fun b e=> .inl e)).snoc (W:=wr.heap.size) hvr (fun j hj=>by
      obtain ⟨n1,n2⟩:=hvb j hj
      simp at n2
      exact ⟨by omega,n1,fun e=>by have:=hu6 j e;omega,by omega⟩) (fun k y q h1 h2 j hj=>((HI.out.rr.at' k y q h1 h2).1.lt j hj).2))
     have hdis: ∀ k,k ∈ [w2.heap.size+1+1,w2.heap.size+1]→ ¬ P k:=fun k hk hp=>by have:=hPg k hp;simp at hk;omega
     have AB6:Hid (ABv ⟨w2.heap.size+1+1,0,0,w2.heap.size+1,i+1,upd fa nm (.agg #[.string (bs nm),.int .i64 at',.slice aP ps.length cP,.slice aB body.length cB])⟩ w5 P (l.take (i+1))):=hide (by rw [HTK.out];exact ABv.snoc ((HI.out.ab.keep kA (by simp)).keep k5 hdis) hnn ((HP.out.keep kA (by simp) (fun d c h=>h)).keep k5 hdis (fun d c h=>h)))
     have CK6:=hide hck
     obtain ⟨x1,x2,x3,x4,x5,x6⟩:=HA0.out
     have KW:Hid (Kp [] WA w5):=hide (Kp.new (Kp.new (((HI.out.kp.alloc _).mono (by simp)).trans k5) (by omega)) (by omega))
     have HS5:Hid (w2.heap.size+1+1+1≤w5.heap.size):=hide (by have:=hck.lt;omega)
     have v07:(w5.alloc (.cells #[.int .i64 0,.int .i64 0] 31)).cell? ⟨w2.heap.size+1+1,0,none⟩=some (.slice av s.bd.length cv):=((Kp.refl [] _).alloc _).some hv0 (by simp)
     have HEQ2:Hid (RS=Kn.stg n (i+1) s.at' (l.take (i+1)) (out++[s.bd]) (l.drop (i+1))):=hide (by rw [HEQ.out,HTK.out])
     have HGF:Hid (∃ b,Rn.gf n (i+1) s.at' (l.drop (i+1))= .inl b):=hide ⟨bq,by rw [hat'];exact HF3.out⟩
     have HT3:Hid (s.at'≤300):=hide (by rw [hat'];exact hcs)
     have hlo:=HI.out.lo
     have hln:=HI.out.rr.ln
     clear hck hvr hvb hnn k5 kA hdis HEQ HNW HF3 x1 x2 x3 x4 x5
     go_wp2_with (at_builtin;refine wpList_append_lies _ rfl _ _ 57 rfl (w2.heap.size+1+1+1) 35 i0 (.slice none 0 0) 1 24 Tryz.underlying57 hi0 hz0 hz1 hz2 rfl (by decide) _ _ _ rfl (by exact (HO5.out.alloc _).alloc _) ⟨w5.heap.size+1,0,none⟩ 1 1 [.slice av s.bd.length cv] rfl rfl (by have:=tnew (w5.alloc (.cells #[.int .i64 0,.int .i64 0] 31)) (.slice av s.bd.length cv) 35;simpa using this) (by intro u hu;simp at hu;subst hu;rfl) (by decide) (by unfold maxLen;omega) (by omega) (by have:=HS5.out;simp;omega) _ rfl ?_;intro gg cap2 w7 hown hgrow hat hlt7)
     have M7:Hid (VI (w2.heap.size+1+1) (w2.heap.size+1) WA P n l RS (i+1) s.at' (upd fa nm (.agg #[.string (bs nm),.int .i64 at',.slice aP ps.length cP,.slice aB body.length cB])) (.slice (some ⟨gg,0,none⟩) (i+1) cap2) (AV++[(av,cv)]) (out++[s.bd]) w.heap.size w7):=hide (by
      have kb:Kp [] w5 ((w5.alloc (.cells #[.int .i64 0,.int .i64 0] 31)).alloc (.cells #[.slice av s.bd.length cv] 35)):=((Kp.refl _ _).alloc _).alloc _
      have hgrow':((w5.alloc (.cells #[.int .i64 0,.int .i64 0] 31)).alloc (.cells #[.slice av s.bd.length cv] 35)).grownBy w7 u6.ownBlock:=hgrow
      have kg:Kp u6.ownBlock.toList ((w5.alloc (.cells #[.int .i64 0,.int .i64 0] 31)).alloc (.cells #[.slice av s.bd.length cv] 35)) w7:=(Kp.refl _ _).grown hgrow' (fun k hk=> .inr (by rw [hk];simp))
      have hlo6: ∀ b,u6.ownBlock=some b→w2.heap.size+1+1+1≤b:=fun b e=>(HO5.out.lt b e).1
      exact ⟨(CK6.out.kp kb).keepS kg (fun hm=>by simp at hm;have:=hlo6 _ hm;omega) (fun hm=>by simp at hm;have:=hlo6 _ hm;omega),(AB6.out.keep kb (by simp)).keep kg (fun k hk hp=>by simp at hk;have:=hlo6 _ hk;have:=hPg k hp;omega),by rw [Kc.us_snoc _ _ hln];exact hown,(R6.out.keep kb (by simp) (fun b e=> .inl e)).keep kg (fun b hb=>by simp at hb;exact .inr (.inr (.inr hb))) (fun b e=>by cases e;exact hat.imp id (fun e=>by rw [e];simp)),by simp [hlo],((KW.out.trans kb).grown hgrow (fun k hk=> .inl (by have:=hlo6 k hk;omega))),HEQ2.out,HGF.out,HT3.out⟩)
     clear hown hgrow hat
     go_wp2
     go_roundw
     case rel=>exact ⟨i+1,_,_,_,_,by omega,by go_num,M7⟩
     case measure=>simp [intOf];omega
   ·obtain rfl:i=l.length:=by omega
    have d1:decide ((l.length:Int)<(l.length:Int))=false:=by simp
    obtain ⟨x1,x2,x3,x4,x5,x6⟩:=HA0.out
    have p0:=HI.out.kp.some x1 (by simp)
    have r0:=HI.out.kp.some x2 (by simp)
    have r1:=HI.out.kp.some x3 (by simp)
    have g0:=(HI.out.kp.frozen (p:=⟨w.heap.size+1,0,none⟩) (by show w.heap.size+1<_;omega) (by simp)).trans x4
    have g1:=(HI.out.kp.frozen (p:=⟨w.heap.size+1,1,none⟩) (by show w.heap.size+1<_;omega) (by simp)).trans x5
    have hRS:RS= .inl out:=by have:=HI.out.eq;rw [List.drop_length] at this;exact this
    have HRV:Hid (RV=if l.any Kn.isMain then .inl out else .inr (13,-1)):=hide (by rw [HV2.out,hRS])
    have hlo:=HI.out.lo
    have HOW:=HI.out.ow
    rw [←hlo] at HOW
    have hav0: ∃ av cv,u6= .slice av out.length cv:=by
     rcases HOW.2 with ⟨h1,h2⟩|⟨b,cp,cur,h1,_⟩
     ·exact ⟨none,0,by rw [h1,h2]⟩
     ·exact ⟨_,_,h1⟩
    have HOO:=hide HOW
    have CT:=hide (HCN.out wr K0.out)
    obtain ⟨av,cv,rfl⟩:=hav0
    clear x1 x2 x3 x4 x5 x6 hRS HV2 hlo HOW
    generalize l.any Kn.isMain=M at *
    cases M with
    |true=>
     have HRf:Hid (RV= .inl out):=hide HRV.out
     clear HRV
     go_wp2_with fail
     refine CT.out.mono ?_
     rintro e w5 ⟨rfl,k5⟩
     have r05:=k5.some r0 (by simp)
     have r15:=k5.some r1 (by simp)
     have g05:=(k5.frozen (p:=⟨w.heap.size+1,0,none⟩) (World.block_lt_of_cell? _ _ r0) (by simp)).trans g0
     have g15:=(k5.frozen (p:=⟨w.heap.size+1,1,none⟩) (World.block_lt_of_cell? _ _ r1) (by simp)).trans g1
     have K5:=hide (K0.out.trans k5)
     have HK5:=hide k5
     have hlr:=World.block_lt_of_cell? _ _ r0
     clear k5
     go_wp2
     refine bodyPost_ret (v:= .tuple #[.slice av out.length cv,.agg #[.int .i64 0,.int .i64 0]]) (by simp [results,Tryz.results13,go_sem,r05,r15]) rfl ?_
     show VsP w RV _ _
     rw [HRf.out]
     have kr:Kp [w.heap.size+1] wr ((w5.setCell ⟨w.heap.size+1,0,none⟩ (.int .i64 0)).setCell ⟨w.heap.size+1,1,none⟩ (.int .i64 0)):=(((HK5.out.mono (by simp)).rb 0 _).rb 1 _)
     exact ⟨av,cv,AV,w2.heap.size+1+1,w2.heap.size+1,rfl,own_keepv HOO.out (fun b hb=>kr.block b (HOO.out.lt b hb).2 (by have:=(HOO.out.lt b hb).1;simp;omega)),HI.out.rr.keep kr (fun b hb=>by simp at hb;exact .inl (by omega)) (fun b e=> .inl e),by omega,(K5.out.nb (by omega) _ _).nb (by omega) _ _⟩
    |false=>
     have HRf:Hid (RV= .inr (13,-1)):=hide HRV.out
     clear HRV
     go_wp2_with fail
     refine CT.out.mono ?_
     rintro e w5 ⟨rfl,k5⟩
     have r05:=k5.some r0 (by simp)
     have r15:=k5.some r1 (by simp)
     have g05:=(k5.frozen (p:=⟨w.heap.size+1,0,none⟩) (World.block_lt_of_cell? _ _ r0) (by simp)).trans g0
     have g15:=(k5.frozen (p:=⟨w.heap.size+1,1,none⟩) (World.block_lt_of_cell? _ _ r1) (by simp)).trans g1
     have K5:=hide (K0.out.trans k5)
     clear k5
     go_wp2
     refine bodyPost_ret (v:= .tuple #[.slice none 0 0,.agg #[.int .i64 13,.int .i64 (-1)]]) (by simp [results,Tryz.results13,go_sem,r05,r15]) rfl ?_
     show VsP w RV _ _
     rw [HRf.out]
     exact ⟨rfl,by simp,(K5.out.nb (by omega) _ _).nb (by omega) _ _⟩
 ·rw [if_pos h0] at HV
  generalize Rn.told n l=F at *
  have qf:(F.1 !=0)=true:=by simpa using h0
  clear hN hT
  go_enter Tryz.func13,Tryz.ntmps13
  go_wp2_with fail
  refine CC.out.mono ?_
  rintro e w2 ⟨rfl,k2⟩
  have K2:=hide (KA.out.trans k2)
  have r0:w2.cell? ⟨w.heap.size+1,0,none⟩=some (.int .i64 0):=k2.some (by simp [go_sem]) (by simp)
  have r1:w2.cell? ⟨w.heap.size+1,1,none⟩=some (.int .i64 0):=k2.some (by simp [go_sem]) (by simp)
  have g0:w2.frozen? ⟨w.heap.size+1,0,none⟩=false:=(k2.frozen (p:=⟨w.heap.size+1,0,none⟩) (by simp) (by simp)).trans (by simp [go_sem])
  have g1:w2.frozen? ⟨w.heap.size+1,1,none⟩=false:=(k2.frozen (p:=⟨w.heap.size+1,1,none⟩) (by simp) (by simp)).trans (by simp [go_sem])
  have hl2:=World.block_lt_of_cell? _ _ r0
  clear k2
  go_wp2
  go_region
  all_goals
   go_wp2
   refine bodyPost_ret (v:= .tuple #[.slice none 0 0,.agg #[.int .i64 F.1,.int .i64 F.2]]) (by simp [results,Tryz.results13,go_sem,r0,r1,hl2]) rfl ?_
   show VsP w RV _ _
   rw [HV.out]
   exact ⟨rfl,h0,(((K2.out.nb (by omega) _ _).nb (by omega) _ _).alloc _).drewN 1⟩
end Go.Proofs.YtcdcoiobpbdmpaaGreatDoor
namespace Go.Proofs.YtcdcoiobpbdmpaaGreatDoor
open Go.RowKit
namespace Bg
def nE:Nat→Sx.Tr→Bool
 |0,_=>true
 |n+1,d=>decide ((Sx.eH d).2.1.length≤1000) && (Sx.eL d).all fun x=>nE n x
def nS:Nat→List Sx.Tr→Bool
 |0,_=>true
 |n+1,l=>l.all fun t=>decide ((Sx.sH t).2.1.length≤1000) && decide ((Sx.sH t).2.2.1.length≤1000) && decide ((Sx.sH t).2.2.2.1.length≤1000) && ((Sx.sE t).all fun x=>nE n x) && nS n (Sx.sB t) && nS n (Sx.sO t)
def nG (n:Nat) (l:List Sx.Tr):Bool:=decide (n≤1000∧l.length≤1000) && l.all fun g=>decide ((Sx.gP g).length≤1000) && decide (Sx.wS n (Sx.gB g)≤1000) && decide ((Sx.gN g).length≤1000) && ((Sx.gP g).all fun p=>decide ((Sx.pH p).1.length≤1000∧(Sx.pH p).2.length≤1000)) && nS n (Sx.gB g)
end Bg
theorem nE_of: ∀ (n:Nat) (d:Sx.Tr),Bg.nE n d=true→Rn.nmE n d
 |0,_,_=>trivial
 |n+1,d,h=>by
  unfold Bg.nE at h
  rw [Bool.and_eq_true] at h
  exact ⟨Nat.le_trans (of_decide_eq_true h.1) (by decide),fun i x hx=>nE_of n x (List.all_eq_true.1 h.2 x (List.mem_of_getElem? hx))⟩
theorem nS_of: ∀ (n:Nat) (l:List Sx.Tr),Bg.nS n l=true→Rn.nmS n l
 |0,_,_=>trivial
 |n+1,l,h=>fun i t ht=>by
  have h1:=List.all_eq_true.1 h t (List.mem_of_getElem? ht)
  simp only [Bool.and_eq_true,decide_eq_true_eq] at h1
  obtain ⟨⟨⟨⟨⟨a1,a2⟩,a3⟩,a4⟩,a5⟩,a6⟩:=h1
  exact ⟨Nat.le_trans a1 (by decide),Nat.le_trans a2 (by decide),Nat.le_trans a3 (by decide),fun j x hx=>nE_of n x (List.all_eq_true.1 a4 x (List.mem_of_getElem? hx)),nS_of n _ a5,nS_of n _ a6⟩
theorem nG_of {n:Nat} {l:List Sx.Tr} (h:Bg.nG n l=true):Nm n l:=by
 unfold Bg.nG at h
 rw [Bool.and_eq_true,decide_eq_true_eq] at h
 have key: ∀ (i:Nat) d,l[i]? =some d→_:=fun i d hd=>List.all_eq_true.1 h.2 d (List.mem_of_getElem? hd)
 simp only [Bool.and_eq_true,decide_eq_true_eq] at key
 refine ⟨by omega,by omega,fun i d hd=> ?_,fun i d hd=> ?_,fun i d hd=> ?_⟩
 ·have:=(key i d hd).1.1.1.1
  omega
 ·have:=(key i d hd).1.1.1.2
  omega
 ·refine ⟨Nat.le_trans (key i d hd).1.1.2 (by decide),fun j p hp=> ?_,nS_of n _ (key i d hd).2⟩
  have:=List.all_eq_true.1 (key i d hd).1.2 p (List.mem_of_getElem? hp)
  simp only [decide_eq_true_eq] at this
  exact ⟨Nat.le_trans this.1 (by decide),Nat.le_trans this.2 (by decide)⟩
end Go.Proofs.YtcdcoiobpbdmpaaGreatDoor
