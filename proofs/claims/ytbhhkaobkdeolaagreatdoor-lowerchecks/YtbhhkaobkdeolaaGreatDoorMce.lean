import Derived.Test.YtbhhkaobkdeolaaGreatDoorMbb
import Derived.Test.YtbhhkaobkdeolaaGreatDoorMba
import Derived.Test.YtbhhkaobkdeolaaGreatDoorMbm
import Derived.Test.YtbhhkaobkdeolaaGreatDoorMcd
namespace Go.Proofs.YtbhhkaobkdeolaaGreatDoor
open Go.RowKit
def Rn.ptx (n:Nat) (l:List Sx.Tr):List UInt8:=if (Rn.told n l).1 ≠ 0 then [] else Rn.pt n l
set_option maxRecDepth 100000 in
set_option maxHeartbeats 2000000 in
theorem print_any (n:Nat) (w:World) (P:Nat→Prop) (l:List Sx.Tr) (a:Option Addr) (c:Nat) (hT:Tb w) (h:Sl (RG w P n) w P l (.slice a l.length c)) (hN:Nm n l):
  Calls Tryz.prog 62 #[.agg #[.slice a l.length c]] w fun e w'=>e= .returned (.tuple #[.string (bs (Rn.ptx n l)),.agg #[.int .i64 (Rn.told n l).1,.int .i64 (Rn.told n l).2]])∧Kp [] w w':=by
 have hg:Sl (RG w (fun b=>b<w.heap.size) n) w (fun b=>b<w.heap.size) l (.slice a l.length c):=h.base (fun b hb _=>hb) (fun d c h=>⟨h.base (fun b hb _=>hb),by obtain ⟨nm,at',ps,body,uP,uB,_,rfl,_⟩:=h;simp⟩)
 clear h
 have HK3:Hid (Kp [] w (((w.alloc (.cells #[.slice a l.length c] 34)).alloc (.cells #[.int .i64 0,.int .i64 0] 28)).alloc (.cells #[.int .i64 0] 149))):=hide ((((Kp.refl _ _).alloc _).alloc _).alloc _)
 have hsz:=hT.size
 have HC:=hide (rprogram_any n _ (fun b=>b<w.heap.size) l a c (w.heap.size+1+1) (hT.kp HK3.out) (hg.keep HK3.out (by simp) (fun d c h=>h.keep HK3.out (by simp))) hN (by omega) (by omega) (by simp [go_sem]) (by simp [go_sem]))
 have HT:=hide hT
 have HG:=hide hg
 have HN:=hide hN
 clear hT hg hN
 by_cases hf:(Rn.pf n l).1=0
 ·obtain ⟨p1,p2,p3,p4⟩:=Rn.pf_ok hf
  have hpl:=Rn.pt_len HG.out HN.out p3 p4
  have HP4:=hide p4
  rw [p1] at HC
  have et:Rn.told n l=if 12000<(Rn.pt n l).length then (1,-1) else (0,0):=by unfold Rn.told;rw [if_neg (by rw [hf];simp)]
  have ET:=hide et
  clear et p1 hf p4
  go_enter Tryz.func62,Tryz.ntmps62
  go_wp2_with fail
  refine HC.out.mono ?_
  rintro e w4 ⟨rfl,hk4⟩
  have K4:Hid (Kp [] w w4):=hide ((Kp.trans (Kp.of_nil HK3.out) hk4).new (by omega))
  have g0:w4.cell? ⟨w.heap.size,0,none⟩=some (.slice a l.length c):=hk4.some (by simp [go_sem]) (by simp;omega)
  have g1:w4.heap[w.heap.size+1]? =some (.cells #[.int .i64 0,.int .i64 0] 28 (0,0)):=by
   rw [hk4.block _ (by simp) (by simp),Below.heap_alloc _ _ _ (by simp)]
   have:=heap_alloc_new (w.alloc (.cells #[.slice a l.length c] 34)) (.cells #[.int .i64 0,.int .i64 0] 28)
   simpa using this
  have hb0:=World.block_lt_of_cell? _ _ g0
  have hb1:w.heap.size+1<w4.heap.size:=(Array.getElem?_eq_some_iff.1 g1).1
  clear hk4 HC HK3
  go_wp2_with fail
  generalize hW:w4.alloc (.cells #[.int .i64 0,.int .i64 0] 28)=W0
  have hpb:W0.heap.size=w4.heap.size+1:=by rw [←hW];simp
  have KW:Hid (Kp [] w W0):=hide (by rw [←hW];exact K4.out.alloc _)
  have G1:W0.heap[w.heap.size+1]? =some (.cells #[.int .i64 0,.int .i64 0] 28 (0,0)):=by rw [←hW,Below.heap_alloc _ _ _ hb1];exact g1
  have HS:=hide (HG.out.keep KW.out (by simp) (fun d c h=>h.keep KW.out (by simp)))
  have HT0:=hide (HT.out.kp KW.out)
  have HP0:Hid (PG W0 (w4.heap.size+1) [] 0 (W0.alloc (.cells #[.pointer none,.slice none 0 0,.int .i64 0] 155))):=hide (by have:=PG.new W0;rw [hpb] at this;exact this)
  have hcl:=Rn.cat_ge (g:=Rn.stt n) (fun d=>by unfold Rn.stt;simp) l
  clear hW g0 g1 hb0 K4
  have hpl':(Rn.cat (Rn.stt n) l).length≤100000000000000:=hpl
  go_loopw [18] (fun iv wr=> ∃ (i:Nat),i≤l.length∧iv= .int .i64 i∧Hid (PG W0 (w4.heap.size+1) (Rn.cat (Rn.stt n) (l.take i)) 0 wr)) (fun iv _=>l.length - (intOf iv).toNat)
  case atStart=>exact ⟨0,Nat.zero_le _,rfl,HP0⟩
  case round=>
   obtain ⟨i,hi,rfl,HQ⟩:=hrel
   by_cases hlt:i<l.length
   ·have d1:decide ((i:Int)<(l.length:Int))=true:=by simp;omega
    obtain ⟨b,off,nm,at',ps,body,uP,uB,rfl,-,hd,m0,m1,m2,m3,hP,hB⟩:=GL.nth HS.out i hlt
    obtain ⟨aP,cP,rfl,-⟩:=id hP
    obtain ⟨aB,cB,rfl⟩:=hB.slice
    obtain ⟨o1,o2⟩:=HP4.out _ (List.mem_of_getElem? hd)
    have n5:ps.length≤1000000:=HN.out.ps i _ hd
    have M0:=(HQ.out.kp []).some m0 (by simp)
    have M1:=(HQ.out.kp []).some m1 (by simp)
    have M2:=(HQ.out.kp []).some m2 (by simp)
    have M3:=(HQ.out.kp []).some m3 (by simp)
    have hk0:(0:Int)≤(i:Int):=by omega
    have hk1:(i:Int)<(l.length:Int):=by omega
    have e1:=Rn.cat_take (g:=Rn.stt n) hd
    have hle:=Rn.cat_le (Rn.stt n) l (i+1)
    rw [e1,List.length_append] at hle
    have E1:=hide e1
    have HX:=hide (pStage n W0 (w4.heap.size+1) _ _ _ nm at' ps body aP aB cP cB (HQ.out.alloc (.cells #[.string (bs nm),.int .i64 at',.slice aP ps.length cP,.slice aB body.length cB] 70)) HT0.out hP hB o2 n5 (by omega))
    clear hP hB o1 o2 n5 m0 m1 m2 m3 hd e1 hle
    go_wp2_with fail
    refine HX.out.mono ?_
    rintro e w6 ⟨rfl,h6,-⟩
    have H6:=hide h6
    clear h6
    go_wp2
    go_roundw
    case rel=>exact ⟨i+1,by omega,by go_num,by rw [E1.out];exact H6⟩
    case measure=>simp [intOf];omega
   ·obtain rfl:i=l.length:=by omega
    have d1:decide ((l.length:Int)<(l.length:Int))=false:=by simp
    rw [List.take_length] at HQ
    change Hid (PG W0 (w4.heap.size+1) (Rn.pt n l) 0 wr) at HQ
    have HLn:=hide (pLen HQ.out)
    have G2:wr.heap[w.heap.size+1]? =some (.cells #[.int .i64 0,.int .i64 0] 28 (0,0)):=((HQ.out.kp []).block _ (by omega) (by simp)).trans G1
    have y0:wr.cell? ⟨w.heap.size+1,0,none⟩=some (.int .i64 0):=by rw [Lib.cell_of_heap G2];rfl
    have y1:wr.cell? ⟨w.heap.size+1,1,none⟩=some (.int .i64 0):=by rw [Lib.cell_of_heap G2];rfl
    have f0:=Lib.frozen_of_heap G2 0
    have f1:=Lib.frozen_of_heap G2 1
    by_cases hlg:12000<(Rn.pt n l).length
    ·have d2:decide ((12000:Int)<((Rn.pt n l).length:Int))=true:=by simp;omega
     have ex:Rn.ptx n l=[]:=by unfold Rn.ptx;rw [ET.out,if_pos hlg];rfl
     go_wp2_with fail
     refine HLn.out.mono ?_
     rintro e w7 ⟨rfl,rfl⟩
     go_wp2
     refine bodyPost_ret (v:= .tuple #[.string (bs []),.agg #[.int .i64 1,.int .i64 (-1)]]) (by simp [results,Tryz.results62,go_sem,y0,y1];rfl) rfl ⟨by rw [ex,ET.out,if_pos hlg],?_⟩
     exact ((KW.out.trans (HQ.out.kp [])).nb (by omega) _ _).nb (by omega) _ _
    ·have d2:decide ((12000:Int)<((Rn.pt n l).length:Int))=false:=by simp;omega
     have ex:Rn.ptx n l=Rn.pt n l:=by unfold Rn.ptx;rw [ET.out,if_neg hlg];rfl
     have hnn:Rn.pt n l ≠ []:=by
      intro e
      have h1:0<l.length:=List.length_pos_iff.2 p2
      have h2:(Rn.cat (Rn.stt n) l)=[]:=e
      rw [h2] at hcl
      simp at hcl
      exact p2 hcl
     have HSt:=hide (pString HQ.out hnn)
     go_wp2_with fail
     refine HLn.out.mono ?_
     rintro e w7 ⟨rfl,rfl⟩
     go_wp2_with fail
     refine HSt.out.mono ?_
     rintro e w8 ⟨rfl,hb8,hf8⟩
     have G8:=hf8.heap G2 (by omega) (by decide)
     have x0:w8.cell? ⟨w.heap.size+1,0,none⟩=some (.int .i64 0):=by rw [Lib.cell_of_heap G8];rfl
     have x1:w8.cell? ⟨w.heap.size+1,1,none⟩=some (.int .i64 0):=by rw [Lib.cell_of_heap G8];rfl
     have u0:=Lib.frozen_of_heap G8 0
     have u1:=Lib.frozen_of_heap G8 1
     go_wp2
     refine bodyPost_ret (v:= .tuple #[.string (bs (Rn.pt n l)),.agg #[.int .i64 0,.int .i64 0]]) (by simp [results,Tryz.results62,go_sem,x0,x1]) rfl ⟨by rw [ex,ET.out,if_neg hlg],?_⟩
     exact ((KW.out.trans (Kp.of_below hb8)).nb (by omega) _ _).nb (by omega) _ _
 ·have et:Rn.told n l=Rn.pf n l:=by unfold Rn.told;rw [if_pos hf]
  have ex:Rn.ptx n l=[]:=by unfold Rn.ptx;rw [et,if_pos hf]
  rw [ex,et]
  have q1:((Rn.pf n l).1 !=0)=true:=by simpa using hf
  clear et ex hf
  generalize Rn.pf n l=F at *
  go_enter Tryz.func62,Tryz.ntmps62
  go_wp2_with fail
  refine HC.out.mono ?_
  rintro e w4 ⟨rfl,hk4⟩
  have K4:Hid (Kp [] w w4):=hide ((Kp.trans (Kp.of_nil HK3.out) hk4).new (by omega))
  have g1:w4.heap[w.heap.size+1]? =some (.cells #[.int .i64 0,.int .i64 0] 28 (0,0)):=by
   rw [hk4.block _ (by simp) (by simp),Below.heap_alloc _ _ _ (by simp)]
   have:=heap_alloc_new (w.alloc (.cells #[.slice a l.length c] 34)) (.cells #[.int .i64 0,.int .i64 0] 28)
   simpa using this
  have hb1:w.heap.size+1<w4.heap.size:=(Array.getElem?_eq_some_iff.1 g1).1
  have x0:w4.cell? ⟨w.heap.size+1,0,none⟩=some (.int .i64 0):=by rw [Lib.cell_of_heap g1];rfl
  have x1:w4.cell? ⟨w.heap.size+1,1,none⟩=some (.int .i64 0):=by rw [Lib.cell_of_heap g1];rfl
  have u0:=Lib.frozen_of_heap g1 0
  have u1:=Lib.frozen_of_heap g1 1
  have hne: ¬ w4.heap.size=w.heap.size+1:=by omega
  clear hk4 HC HK3
  go_wp2
  go_region
  go_wp2
  refine bodyPost_ret (v:= .tuple #[.string (bs []),.agg #[.int .i64 F.1,.int .i64 F.2]]) (by simp [results,Tryz.results62,go_sem,x0,x1,hb1];rfl) rfl ⟨rfl,?_⟩
  exact (((K4.out.nb (by omega) _ _).nb (by omega) _ _).alloc _).drew
structure FB (w:World) (v:Value) (wr:World):Prop where
 kp:Kp [] w wr
 bx:wr.cell? ⟨w.heap.size,0,none⟩=some v
 r0:wr.cell? ⟨w.heap.size+1,0,none⟩=some (.int .i64 0)
 r1:wr.cell? ⟨w.heap.size+1,1,none⟩=some (.int .i64 0)
 f0:wr.frozen? ⟨w.heap.size+1,0,none⟩=false
 f1:wr.frozen? ⟨w.heap.size+1,1,none⟩=false
theorem FB.go {w wr w':World} {v:Value} (h:FB w v wr) (hk:Kp [] wr w'):FB w v w':=
 ⟨h.kp.trans hk,hk.some h.bx (by simp),hk.some h.r0 (by simp),hk.some h.r1 (by simp),(hk.frozen (p:=⟨w.heap.size+1,0,none⟩) (World.block_lt_of_cell? _ _ h.r0) (by simp)).trans h.f0,(hk.frozen (p:=⟨w.heap.size+1,1,none⟩) (World.block_lt_of_cell? _ _ h.r1) (by simp)).trans h.f1⟩
set_option maxRecDepth 100000 in
set_option maxHeartbeats 1000000 in
theorem rcheck_any (n:Nat) (w:World) (P:Nat→Prop) (l:List Sx.Tr) (a:Option Addr) (c:Nat) (hT:Tb w) (h:Sl (RG w P n) w P l (.slice a l.length c)) (hN:Nm n l):
  Calls Tryz.prog 31 #[.agg #[.slice a l.length c]] w fun e w'=>e= .returned (.agg #[.int .i64 (Rn.told n l).1,.int .i64 (Rn.told n l).2])∧Kp [] w w':=by
 have K2:Hid (Kp [] w ((w.alloc (.cells #[.slice a l.length c] 34)).alloc (.cells #[.int .i64 0,.int .i64 0] 28))):=hide (((Kp.refl _ _).alloc _).alloc _)
 have HC:=hide (print_any n _ P l a c (hT.kp K2.out) (h.keep K2.out (by simp) (fun d c h=>h.keep K2.out (by simp))) hN)
 have B2:Hid (FB w (.slice a l.length c) ((w.alloc (.cells #[.slice a l.length c] 34)).alloc (.cells #[.int .i64 0,.int .i64 0] 28))):=hide ⟨K2.out,by simp [go_sem],by simp [go_sem],by simp [go_sem],by simp [go_sem],by simp [go_sem]⟩
 clear h hT hN K2
 generalize Rn.told n l=F at *
 go_enter Tryz.func31,Tryz.ntmps31
 go_wp2_with fail
 refine HC.out.mono ?_
 rintro e w3 ⟨rfl,hk3⟩
 obtain ⟨k5,-,r0,r1,f0,f1⟩:=B2.out.go hk3
 have hb4:=World.block_lt_of_cell? _ _ r0
 clear hk3 HC
 go_wp2
 refine bodyPost_ret (v:= .agg #[.int .i64 F.1,.int .i64 F.2]) (by simp [results,Tryz.results31,go_sem,r0,r1,hb4]) rfl ⟨rfl,?_⟩
 exact ((k5.nb (by omega) _ _).nb (by omega) _ _).alloc _
end Go.Proofs.YtbhhkaobkdeolaaGreatDoor
namespace Go.Proofs.YtbhhkaobkdeolaaGreatDoor
open Go.RowKit
namespace Bg
def nE:Nat→Sx.Tr→Bool
 |0,_=>true
 |n+1,d=>decide ((Sx.eH d).2.1.length≤1000) && (Sx.eL d).all fun x=>nE n x
def nS:Nat→List Sx.Tr→Bool
 |0,_=>true
 |n+1,l=>l.all fun t=>decide ((Sx.sH t).2.1.length≤1000) && decide ((Sx.sH t).2.2.1.length≤1000) && decide ((Sx.sH t).2.2.2.1.length≤1000) && ((Sx.sE t).all fun x=>nE n x) && nS n (Sx.sB t) && nS n (Sx.sO t)
def nG (n:Nat) (l:List Sx.Tr):Bool:=decide (n≤1000∧l.length≤1000) && l.all fun g=>decide ((Sx.gP g).length≤1000) && decide (Sx.wS n (Sx.gB g)≤1000) && decide ((Sx.gN g).length≤1000) && ((Sx.gP g).all fun p=>decide ((Sx.pH p).1.length≤1000∧(Sx.pH p).2.length≤1000)) && nS n (Sx.gB g)
end Bg
theorem nE_of: ∀ (n:Nat) (d:Sx.Tr),Bg.nE n d=true→Rn.nmE n d
 |0,_,_=>trivial
 |n+1,d,h=>by
  unfold Bg.nE at h
  rw [Bool.and_eq_true] at h
  exact ⟨Nat.le_trans (of_decide_eq_true h.1) (by decide),fun i x hx=>nE_of n x (List.all_eq_true.1 h.2 x (List.mem_of_getElem? hx))⟩
theorem nS_of: ∀ (n:Nat) (l:List Sx.Tr),Bg.nS n l=true→Rn.nmS n l
 |0,_,_=>trivial
 |n+1,l,h=>fun i t ht=>by
  have h1:=List.all_eq_true.1 h t (List.mem_of_getElem? ht)
  simp only [Bool.and_eq_true,decide_eq_true_eq] at h1
  obtain ⟨⟨⟨⟨⟨a1,a2⟩,a3⟩,a4⟩,a5⟩,a6⟩:=h1
  exact ⟨Nat.le_trans a1 (by decide),Nat.le_trans a2 (by decide),Nat.le_trans a3 (by decide),fun j x hx=>nE_of n x (List.all_eq_true.1 a4 x (List.mem_of_getElem? hx)),nS_of n _ a5,nS_of n _ a6⟩
theorem nG_of {n:Nat} {l:List Sx.Tr} (h:Bg.nG n l=true):Nm n l:=by
 unfold Bg.nG at h
 rw [Bool.and_eq_true,decide_eq_true_eq] at h
 have key: ∀ (i:Nat) d,l[i]? =some d→_:=fun i d hd=>List.all_eq_true.1 h.2 d (List.mem_of_getElem? hd)
 simp only [Bool.and_eq_true,decide_eq_true_eq] at key
 refine ⟨by omega,by omega,fun i d hd=> ?_,fun i d hd=> ?_,fun i d hd=> ?_⟩
 ·have:=(key i d hd).1.1.1.1
  omega
 ·have:=(key i d hd).1.1.1.2
  omega
 ·refine ⟨Nat.le_trans (key i d hd).1.1.2 (by decide),fun j p hp=> ?_,nS_of n _ (key i d hd).2⟩
  have:=List.all_eq_true.1 (key i d hd).1.2 p (List.mem_of_getElem? hp)
  simp only [decide_eq_true_eq] at this
  exact ⟨Nat.le_trans this.1 (by decide),Nat.le_trans this.2 (by decide)⟩
end Go.Proofs.YtbhhkaobkdeolaaGreatDoor
namespace Go.Proofs.YtbhhkaobkdeolaaGreatDoor
open Go.RowKit
theorem lb_blocks:BlC [3,9,12] 5:=blocks_ok _ (fun f D hD hB=>by
 simp only [List.mem_cons,List.mem_nil_iff,or_false] at hD
 rcases hD with rfl|rfl|rfl
 ·exact ⟨by decide,fun _=>plain_3,fun h=>by omega⟩
 ·exact ⟨by decide,fun _=>plain_7 9 (.inr rfl),fun h=>by omega⟩
 ·exact ⟨by decide,fun h=>by omega,fun _=>⟨by decide,nest_ab _ f 12 (.inr rfl) hB⟩⟩) 5
theorem lb_check: ∀ (w:World) (a:Option Addr) (cap:Nat),Tb w→Sl (RG w (fun b=>b<w.heap.size) 8) w (fun b=>b<w.heap.size) lbL (.slice a lbL.length cap)→Calls Tryz.prog 31 #[.agg #[.slice a lbL.length cap]] w fun e w2=>e= .returned (.agg #[.int .i64 0,.int .i64 0])∧Kp [] w w2:=fun w a cap hT hS=>by
 have:=rcheck_any 8 w _ lbL a cap hT hS (nG_of (by kernel_rfl))
 rw [lb_told] at this
 exact this
theorem lb_field (x y:Value) (w:World):(Instr.field 28 (.agg #[x,y]) 0).run Tryz.prog w= .ok x w:=by kernel_rfl
theorem lb_right:Ck.check [lbP] 0=(0,0):=by kernel_rfl
theorem lb_types:(lbP.vars.all fun v=>decide (v.2.size≤100))=true:=by kernel_rfl
theorem lb_lens:decide (lbP.vars.length≤1000∧lbP.blocks.length≤1000∧lbP.ins.length≤1000)=true:=by kernel_rfl
theorem lb_inss:(lbP.ins.all fun x=>decide (x.t.size≤1000∧x.e.length≤1000∧x.args.length≤1000) && x.args.all fun y=>decide (y.1.length≤1000))=true:=by kernel_rfl
theorem lb_okC:CoOK [lbP]:=fun p hp=>by
 rw [List.mem_singleton] at hp
 subst hp
 have hl:=of_decide_eq_true lb_lens
 refine ⟨⟨fun v hv=>of_decide_eq_true (List.all_eq_true.1 lb_types v hv),by omega,by omega,by omega⟩,fun x hx=> ?_⟩
 have h:=List.all_eq_true.1 lb_inss x hx
 rw [Bool.and_eq_true,decide_eq_true_eq] at h
 exact ⟨h.1.1,by omega,by omega,fun y hy=>by
  have:=of_decide_eq_true (List.all_eq_true.1 h.2 y hy)
  omega⟩
set_option maxRecDepth 100000 in
set_option maxHeartbeats 2000000 in
theorem lbegun_any (w:World) (hT:Tb w):Calls Tryz.prog 4 #[] w fun e w'=>e= .returned (.bool true)∧Below w.heap.size w w':=by
 have CP:=hide (fun (w:World) (h:Tb w)=>parse_at [3,9,12] 5 8 lb_blocks lbT (by decide) lb_scan (of_decide_eq_true lb_len) lb_at lb_read lb_ok h.words)
 have CL:=hide (fun (w:World) (h:Tb w) (a:Option Addr) (cap:Nat) (hL:Sl (RG w (fun b=>b<w.heap.size) 8) w (fun b=>b<w.heap.size) lbL (.slice a lbL.length cap))=>lower_at 7 lbL a cap hL (by decide) lbR (by decide) rfl lb_vars (fun w1 hk=>lb_check w1 a cap (h.kp hk) ((hL.keep hk (by simp) (fun d c h=>h.keep hk (by simp))).base (fun b _ hb=>Nat.lt_of_lt_of_le hb hk.size) (fun d c h=>⟨h.base (fun b _ hb=>Nat.lt_of_lt_of_le hb hk.size),by obtain ⟨_,_,_,_,_,_,_,rfl,_⟩:=h;simp⟩))) lbPR lb_some)
 have HT:=hide hT
 rw [lb_is] at CL
 clear hT
 go_enter Tryz.func4,Tryz.ntmps4
 go_wp2_with fail
 refine (CP.out _ HT.out).mono ?_
 rintro e w1 ⟨a,cap,rfl,hSl,hk⟩
 have K1:Hid (Kp [] w w1):=hide hk
 have HS1:=hide hSl
 clear hSl hk
 have K2:Hid (Kp [] w1 ((w1.alloc (.cells #[.slice a lbL.length cap] 34)).alloc (.cells #[.int .i64 0,.int .i64 0] 28))):=hide (((Kp.refl _ _).alloc _).alloc _)
 have HS2:Hid (Sl (RG ((w1.alloc (.cells #[.slice a lbL.length cap] 34)).alloc (.cells #[.int .i64 0,.int .i64 0] 28)) (fun b=>b<((w1.alloc (.cells #[.slice a lbL.length cap] 34)).alloc (.cells #[.int .i64 0,.int .i64 0] 28)).heap.size) 8) ((w1.alloc (.cells #[.slice a lbL.length cap] 34)).alloc (.cells #[.int .i64 0,.int .i64 0] 28)) (fun b=>b<((w1.alloc (.cells #[.slice a lbL.length cap] 34)).alloc (.cells #[.int .i64 0,.int .i64 0] 28)).heap.size) lbL (.slice a lbL.length cap)):=
  hide ((HS1.out.keep K2.out (by simp) (fun d c h=>h.keep K2.out (by simp))).base (fun b _ hb=>Nat.lt_of_lt_of_le hb K2.out.size) (fun d c h=>⟨h.base (fun b _ hb=>Nat.lt_of_lt_of_le hb K2.out.size),by obtain ⟨_,_,_,_,_,_,_,rfl,_⟩:=h;simp⟩))
 go_wp2_with fail
 refine (CL.out _ ((HT.out.kp K1.out).kp K2.out) a cap HS2.out).mono ?_
 rintro e w2 ⟨ap,cp,rfl,hco,hb2⟩
 have hco':=hco
 obtain ⟨a2,c2,e2,h2⟩:=hco'
 obtain ⟨rfl,-⟩:ap=a2∧cp=c2:=by simpa using e2
 obtain ⟨g,o,rfl,h3⟩:=h2 (by simp)
 obtain ⟨q,h4,hpc⟩:=h3 0 lbP rfl
 rw [Nat.zero_mul,Nat.add_zero] at h4
 have hcoR:=hide (show CoR w2 (.slice (some ⟨g,o,none⟩) 1 cp) [lbP] from hco)
 have x4:w2.cell? ⟨g,o+4,none⟩=some (.slice q.ai lbP.ins.length q.ci):=h4 4 _ rfl
 obtain ⟨ia,ic,e4,hin⟩:=hpc.ins
 obtain ⟨rfl,rfl⟩:q.ai=ia∧q.ci=ic:=by simpa using e4
 have hx0: ∃ x,lbP.ins[0]? =some x∧x.to=3:=by
  have h:=lb_to
  cases hh:lbP.ins[0]? with
  |none=>rw [hh] at h;cases h
  |some x=>rw [hh] at h;exact ⟨x,rfl,by simpa using h⟩
 obtain ⟨x,hx,hto⟩:=hx0
 obtain ⟨gi,oi,hgi,hin2⟩:=hin (List.ne_nil_of_mem (List.mem_of_getElem? hx))
 obtain ⟨ae,ce,aa,ca,hic⟩:=hin2 0 x hx
 have x5:=hic.c4
 rw [hto,Nat.zero_mul,Nat.add_zero] at x5
 rw [hgi,lb_ins] at x4
 have B2:Hid (Below w.heap.size w w2):=hide ((K1.out.trans K2.out).below.trans (hb2.mono (by have:=K1.out.size;simp;omega)))
 have hml:Lw.mainI 0 0 lbL=0:=by kernel_rfl
 rw [hml]
 clear hpc h2 h3 h4 e2 hb2 HS1 HS2 hin hin2 hic e4 hx hto hgi hco
 have B3:Hid (Below w.heap.size w ((w2.alloc (.cells #[.slice (some ⟨g,o,none⟩) 1 cp,.int .i64 0] 24)).alloc (.cells #[.int .i64 0,.int .i64 0] 28))):=hide ((B2.out.alloc (by have:=B2.out.size;omega) _).alloc (by have:=B2.out.size;simp;omega) _)
 have hb3:Below w2.heap.size w2 ((w2.alloc (.cells #[.slice (some ⟨g,o,none⟩) 1 cp,.int .i64 0] 24)).alloc (.cells #[.int .i64 0,.int .i64 0] 28)):=((Below.refl _ _).alloc (Nat.le_refl _) _).alloc (by simp) _
 have CK:=hide (ckCheck_any [lbP] 0 (some ⟨g,o,none⟩) cp _ (hcoR.out.keep hb3) lb_okC (by simp))
 rw [lb_right] at CK
 have y4:=bsome hb3 x4
 have y5:=bsome hb3 x5
 clear hb3 hcoR
 go_wp2_with fail
 refine CK.out.mono ?_
 rintro e w4 ⟨rfl,hb4⟩
 have B4:=hide (B3.out.trans (hb4.mono B3.out.size))
 have y4:=bsome hb4 y4
 have y5:=bsome hb4 y5
 clear hb4
 have hfd:=lb_field
 go_wp2_with fail
 go_ret
 exact ⟨rfl,B4.out⟩
end Go.Proofs.YtbhhkaobkdeolaaGreatDoor
