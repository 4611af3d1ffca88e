import Derived.Test.YthcapfojofahkaaGreatDoorMbm
namespace Go.Proofs.YthcapfojofahkaaGreatDoor
open Go.RowKit
set_option linter.unusedSimpArgs false in
set_option maxRecDepth 100000 in
set_option maxHeartbeats 2000000 in
theorem exprText_op8 (n:Nat) (ih:XTt n) (w:World) (P:Nat→Prop) (d1 d2:Sx.Tr) (a:Option Addr) (c mm:Nat) (hT:Tb w) (hE:EL w P (n+1) [d1,d2] (.slice a 2 c)) (f1:Rn.xf (n+1) d1=0) (f2:Rn.xf (n+1) d2=0) (hp1:Rn.prt (n+1) d1≤1000000) (hp2:Rn.prt (n+1) d2≤1000000) (br:Bool) (hm:decide ((1:Int)<(mm:Int))=br):
  Calls Tryz.prog 97 #[.agg #[.int .i64 8,.string (bs []),.int .i64 0,.slice a 2 c],.int .i64 mm] w fun e w'=>e= .returned (.string (bs (Rn.brk br (Rn.xt (n+1) 1 d1++[32,61,61,32]++Rn.xt (n+1) 1 d2))))∧Kp [] w w':=by
 obtain ⟨b,off,op1,nm1,z1,L1,aL1,cL1,rfl,-,hd1,m0,m1,m2,m3,hL1⟩:=hE.nth 0 (by simp)
 obtain ⟨b',off',op2,nm2,z2,L2,aL2,cL2,hbb,-,hd2,n0,n1,n2,n3,hL2⟩:=hE.nth 1 (by simp)
 obtain ⟨rfl,rfl⟩:b=b'∧off=off':=by cases hbb;exact ⟨rfl,rfl⟩
 obtain rfl:d1=Sx.tE op1 nm1 z1 L1:=by simpa using hd1
 obtain rfl:d2=Sx.tE op2 nm2 z2 L2:=by simpa using hd2
 clear hd1 hd2 hbb hE
 rw [Nat.zero_mul,Nat.add_zero] at m0 m1 m2 m3
 rw [Nat.one_mul] at n0 n1 n2 n3
 have IH1:=hide (fun W (hk:Kp [] w W)=>ih W P op1 z1 nm1 L1 aL1 cL1 1 (hT.kp hk) (hL1.keep hk (by simp)) f1 (by omega) hp1)
 have IH2:=hide (fun W (hk:Kp [] w W)=>ih W P op2 z2 nm2 L2 aL2 cL2 1 (hT.kp hk) (hL2.keep hk (by simp)) f2 (by omega) hp2)
 have hxl:=Rn.xt_len (n+1) 1 _ f1
 have hxr:=Rn.xt_len (n+1) 1 _ f2
 have zl:(bs (Rn.xt (n+1) 1 (Sx.tE op1 nm1 z1 L1))).size≤30000000:=by rw [bsz];omega
 have zr:(bs (Rn.xt (n+1) 1 (Sx.tE op2 nm2 z2 L2))).size≤30000000:=by rw [bsz];omega
 clear hxl hxr hT hL1 hL2 f1 f2 ih hp1 hp2
 generalize Rn.xt (n+1) 1 (Sx.tE op1 nm1 z1 L1)=X1 at *
 generalize Rn.xt (n+1) 1 (Sx.tE op2 nm2 z2 L2)=X2 at *
 have hblt:=World.block_lt_of_cell? _ _ m0
 go_enter Tryz.func97,Tryz.ntmps97
 go_wp2
 generalize hW:(w.alloc _).alloc _=W
 have KW:Hid (Kp [] w W):=hide (by rw [←hW];exact ((Kp.refl _ _).alloc _).alloc _)
 have g0:W.cell? ⟨w.heap.size,0,none⟩=some (.int .i64 8):=by rw [←hW];simp [go_sem]
 have g3:W.cell? ⟨w.heap.size,3,none⟩=some (.slice (some ⟨b,off,none⟩) 2 c):=by rw [←hW];simp [go_sem]
 have M0:=KW.out.some m0 (by simp)
 have M1:=KW.out.some m1 (by simp)
 have M2:=KW.out.some m2 (by simp)
 have M3:=KW.out.some m3 (by simp)
 have N0:=KW.out.some n0 (by simp)
 have N1:=KW.out.some n1 (by simp)
 have N2:=KW.out.some n2 (by simp)
 have N3:=KW.out.some n3 (by simp)
 have ze:(bs X1++(⟨#[32,61,61,32]⟩:ByteArray)).size=(bs X1).size+4:=by
  rw [show (⟨#[32,61,61,32]⟩:ByteArray)=bs [32,61,61,32] from rfl,bs_append,bsz,bsz,List.length_append]
  rfl
 clear hW m0 m1 m2 m3 n0 n1 n2 n3
 have J1:Hid (∀ W',Kp [] W W'→Calls Tryz.prog 97 #[.agg #[.int .i64 op1,.string (bs nm1),.int .i64 z1,.slice aL1 L1.length cL1],.int .i64 2] W' fun e w'=>e= .returned (.string (bs X1))∧Kp [] W' w'):=hide (fun W' hk=>IH1.out W' (KW.out.trans hk))
 have J2:Hid (∀ W',Kp [] W W'→Calls Tryz.prog 97 #[.agg #[.int .i64 op2,.string (bs nm2),.int .i64 z2,.slice aL2 L2.length cL2],.int .i64 2] W' fun e w'=>e= .returned (.string (bs X2))∧Kp [] W' w'):=hide (fun W' hk=>IH2.out W' (KW.out.trans hk))
 clear IH1 IH2
 have HS:=hide (show W.cell? ⟨w.heap.size,3,none⟩=some (.slice (some ⟨b,off,none⟩) 2 c)∧W.cell? ⟨w.heap.size,0,none⟩=some (.int .i64 8)∧W.cell? ⟨b,off,none⟩=some (.int .i64 op1)∧W.cell? ⟨b,off+1,none⟩=some (.string (bs nm1))∧W.cell? ⟨b,off+2,none⟩=some (.int .i64 z1)∧W.cell? ⟨b,off+3,none⟩=some (.slice aL1 L1.length cL1)∧W.cell? ⟨b,off+4,none⟩=some (.int .i64 op2)∧W.cell? ⟨b,off+4+1,none⟩=some (.string (bs nm2))∧W.cell? ⟨b,off+4+2,none⟩=some (.int .i64 z2)∧W.cell? ⟨b,off+4+3,none⟩=some (.slice aL2 L2.length cL2) from ⟨g3,g0,M0,M1,M2,M3,N0,N1,N2,N3⟩)
 have HKS:Hid (∀ W',Kp [] W W'→W'.cell? ⟨w.heap.size,3,none⟩=some (.slice (some ⟨b,off,none⟩) 2 c)∧W'.cell? ⟨w.heap.size,0,none⟩=some (.int .i64 8)∧W'.cell? ⟨b,off,none⟩=some (.int .i64 op1)∧W'.cell? ⟨b,off+1,none⟩=some (.string (bs nm1))∧W'.cell? ⟨b,off+2,none⟩=some (.int .i64 z1)∧W'.cell? ⟨b,off+3,none⟩=some (.slice aL1 L1.length cL1)∧W'.cell? ⟨b,off+4,none⟩=some (.int .i64 op2)∧W'.cell? ⟨b,off+4+1,none⟩=some (.string (bs nm2))∧W'.cell? ⟨b,off+4+2,none⟩=some (.int .i64 z2)∧W'.cell? ⟨b,off+4+3,none⟩=some (.slice aL2 L2.length cL2)):=hide (fun W' hk=>⟨hk.some g3 (by simp),hk.some g0 (by simp),hk.some M0 (by simp),hk.some M1 (by simp),hk.some M2 (by simp),hk.some M3 (by simp),hk.some N0 (by simp),hk.some N1 (by simp),hk.some N2 (by simp),hk.some N3 (by simp)⟩)
 refine wp_region_held_drew (S:=fun w'=>w'.cell? ⟨w.heap.size,3,none⟩=some (.slice (some ⟨b,off,none⟩) 2 c)∧w'.cell? ⟨w.heap.size,0,none⟩=some (.int .i64 8)∧w'.cell? ⟨b,off,none⟩=some (.int .i64 op1)∧w'.cell? ⟨b,off+1,none⟩=some (.string (bs nm1))∧w'.cell? ⟨b,off+2,none⟩=some (.int .i64 z1)∧w'.cell? ⟨b,off+3,none⟩=some (.slice aL1 L1.length cL1)∧w'.cell? ⟨b,off+4,none⟩=some (.int .i64 op2)∧w'.cell? ⟨b,off+4+1,none⟩=some (.string (bs nm2))∧w'.cell? ⟨b,off+4+2,none⟩=some (.int .i64 z2)∧w'.cell? ⟨b,off+4+3,none⟩=some (.slice aL2 L2.length cL2)) (by kernel_rfl) (HKS.out _ ((Kp.refl _ _).drew)) (fun h=> ?_)
 have KV:Hid (Kp [] W W.drew):=hide ((Kp.refl _ _).drew)
 revert h KV
 generalize W.drew=V
 intro h KV
 have L:=Sc.mk (.t 0 (.t 1 (.t 2 (.t 3 (.t 4 (.t 7 (.t 8 (.t 9 (.t 13 (.t 14 (.t 15 (.t 16 (.t 17 (.t 18 (.r [5,6] [.r [6,19] [.t 10 (.r [11,19] [.t 12 (.r [19] [.t 20 (.u (.d))]),.r [11] [.t 12 (.t 20 (.u (.d)))]]),.r [6] [.t 10 (.r [11] [.t 12 (.t 20 (.u (.d)))])]],.t 10 (.r [5,11] [.r [11,19] [.t 12 (.r [19] [.t 20 (.u (.d))]),.r [11] [.t 12 (.t 20 (.u (.d)))]],.r [5] [.t 12 (.r [19] [.t 20 (.u (.d))])]])])))))))))))))))
 repeat' first
  |(have q:=L.t
    refine tkS L (v:= ?_) rfl (by kernel_rfl) (by kernel_rfl) (by kernel_rfl) (fun _ _ _ h=>h) (Or.inl ⟨by rfl,?_⟩) (by assumption) ?_
    rotate_left
    focus (intro w' hSw;(try dsimp only at hSw);go_simp;(first|done|with_reducible rfl|(rw [if_neg (by omega)];try with_reducible rfl)))
    try simp only [Act.put,List.setIfInBounds_toArray,List.set_cons_zero,List.set_cons_succ,wr_0,wr_1,wr_2,wr_3,wr_4]
    replace L:=L.t)
  |(have q:=L.u
    refine wpAnyH_take (i:=21) (oi:={ dst:=some 6,op:=Op.assign (Operand.tmp 38),type:=9,pos:= "render.go:204",after:=_,guard:=none }) (v:= ?_) rfl (by kernel_rfl) (by kernel_rfl) (by kernel_rfl) (fun _ _ _ h=>h) (Or.inl ⟨by rfl,?_⟩) (by assumption) ?_
    rotate_left
    focus (intro w' hSw;(try dsimp only at hSw);go_simp;(first|done|with_reducible rfl|(rw [if_neg (by omega)];try with_reducible rfl)))
    try simp only [Act.put,List.setIfInBounds_toArray,List.set_cons_zero,List.set_cons_succ,wr_0,wr_1,wr_2,wr_3,wr_4]
    replace L:=L.u)
  |(have q:=L.r
    refine rdS L (by kernel_rfl) (by simp) ?_
    replace L:=L.r)
  |(have q:=L.hd
    with_reducible refine AllReadyH.cons rfl (fun K hK=> ?_) ?_
    focus
     replace L:=L.hd
     go_simp
     first
     |(
      with_reducible refine (J1.out _ ?_).mono ?_
      focus exact KV.out
      rintro e V ⟨rfl,hk⟩
      try have e3:=hk.some e3 (by simp)
      have KV:Hid (Kp [] W V):=hide (KV.out.trans hk)
      clear hk
      try go_wp2)
     |(
      with_reducible refine (J2.out _ ?_).mono ?_
      focus exact KV.out
      rintro e V ⟨rfl,hk⟩
      try have e3:=hk.some e3 (by simp)
      have KV:Hid (Kp [] W V):=hide (KV.out.trans hk)
      clear hk
      try go_wp2)
     |(try go_wp2
       generalize hV:World.alloc _ _=V
       have KV:Hid (Kp [] W V):=hide (hV ▸ KV.out.alloc _)
       have e3:=cellN (x:= .string ⟨#[32,61,61,32]⟩) 4 hV (by simp [go_sem])
       clear hV)
     |(try go_wp2)
     refine hK.out _ _ (HKS.out _ KV.out) (fun h=> ?_)
     clear hK K
    any_goals replace L:=L.tl)
  |(have q:=L.nl
    exact AllReadyH.nil)
  |(have q:=L.d
    refine wpAnyH_done (by kernel_rfl) ?_ _
    try simp only [Act.put,List.setIfInBounds_toArray,List.set_cons_zero,List.set_cons_succ]
    cases br with
    |false=>
     go_wp2
     go_ret
     exact ⟨by rw [Rn.brk_false,←bs_append,←bs_append];rfl,KW.out.trans KV.out⟩
    |true=>
     go_wp2
     go_ret
     exact ⟨by rw [Rn.brk_true,←bs_append,←bs_append,←bs_append,←bs_append];rfl,KW.out.trans KV.out⟩)
end Go.Proofs.YthcapfojofahkaaGreatDoor
namespace Go.Proofs.YthcapfojofahkaaGreatDoor
open Go.RowKit
theorem Rn.prt_two (n:Nat) (op z:Int) (nm:List UInt8) (d1 d2:Sx.Tr):Rn.prt (n+1) (Sx.tE op nm z [d1,d2])=1+(Rn.prt n d1+Rn.prt n d2):=by
 show 1+Sx.wE (n+1) [d1,d2]=_
 rw [Rn.wE_prt]
 rfl
theorem Rn.prt_one (n:Nat) (op z:Int) (nm:List UInt8) (d1:Sx.Tr):Rn.prt (n+1) (Sx.tE op nm z [d1])=1+Rn.prt n d1:=by
 show 1+Sx.wE (n+1) [d1]=_
 rw [Rn.wE_prt]
 rfl
theorem exprText_step (n:Nat) (ih:XTt n):XTt (n+1):=by
 intro w P op z nm L a c must hT hE hf hm hp
 obtain ⟨o1,o8,hl,hz,hn,hN,z0,z1,hs⟩:=Rn.xf_all hf
 have hs':=Rn.firstOf_zero hs
 have hbm:=Rn.bi_must o1 o8 hm
 rw [Rn.xt_xb]
 unfold Rn.xb
 have hmR:Rn.mR must≤4:=by unfold Rn.mR;split<;> omega
 by_cases h1:op=1
 ·subst h1
  obtain rfl:L=[]:=List.length_eq_zero_iff.1 hl
  obtain rfl:nm=[]:=by rcases hn with h|h;exact h;cases h
  rw [if_pos rfl,show decide (Rn.holds 1<must)=false from decide_eq_false (by unfold Rn.holds;simp;omega),Rn.brk_false]
  exact exprText_num w z a c (Rn.mR must) hT z0 z1 (decide_eq_false (by omega))
 rw [if_neg h1]
 obtain rfl:z=0:=by omega
 by_cases h2:op=2
 ·subst h2
  obtain rfl:L=[]:=List.length_eq_zero_iff.1 hl
  rw [if_pos rfl,show decide (Rn.holds 2<must)=false from decide_eq_false (by unfold Rn.holds;simp;omega),Rn.brk_false]
  exact exprText_name w nm a c (Rn.mR must) (decide_eq_false (by omega))
 rw [if_neg h2]
 obtain rfl:nm=[]:=by rcases hn with h|h;exact h;omega
 by_cases h3:op=3
 ·subst h3
  have hl1:L.length=1:=hl
  obtain ⟨d1,rfl⟩:=List.length_eq_one_iff.1 hl1
  rw [Rn.prt_one] at hp
  rw [if_pos rfl,show decide (Rn.holds 3<must)=false from decide_eq_false (by unfold Rn.holds;simp;omega),Rn.brk_false]
  exact exprText_neg n ih w P d1 a c (Rn.mR must) hT hE (hs' d1 (by simp)) (by omega) (decide_eq_false (by omega))
 rw [if_neg h3]
 have hl2:L.length=2:=by rw [hl,Rn.want_op (by omega)]
 match L,hl2 with
 |[d1,d2],_=>
  rw [Rn.prt_two] at hp
  have hk:op=4∨op=5∨op=6∨op=7∨op=8:=by omega
  rcases hk with rfl|rfl|rfl|rfl|rfl
  ·exact exprText_op4 n ih w P d1 d2 a c (Rn.mR must) hT hE (hs' d1 (by simp)) (hs' d2 (by simp)) (by omega) (by omega) _ hbm
  ·exact exprText_op5 n ih w P d1 d2 a c (Rn.mR must) hT hE (hs' d1 (by simp)) (hs' d2 (by simp)) (by omega) (by omega) _ hbm
  ·exact exprText_op6 n ih w P d1 d2 a c (Rn.mR must) hT hE (hs' d1 (by simp)) (hs' d2 (by simp)) (by omega) (by omega) _ hbm
  ·exact exprText_op7 n ih w P d1 d2 a c (Rn.mR must) hT hE (hs' d1 (by simp)) (hs' d2 (by simp)) (by omega) (by omega) _ hbm
  ·exact exprText_op8 n ih w P d1 d2 a c (Rn.mR must) hT hE (hs' d1 (by simp)) (hs' d2 (by simp)) (by omega) (by omega) _ hbm
theorem exprText_any (n:Nat):XTt n:=by
 induction n with
 |zero=>intro w P op z nm L a c must _ hE;cases hE
 |succ n ih=>exact exprText_step n ih
end Go.Proofs.YthcapfojofahkaaGreatDoor
namespace Go.Proofs.YthcapfojofahkaaGreatDoor
open Go.RowKit
theorem Rn.blt_small {n k:Nat} {w:World} {P:Nat→Prop} {l:List Sx.Tr} {v:Value} (h:SL w P n l v) (ho:Rn.okB n l) (hk:k+n≤1500000) (hw:Sx.wS n l≤1000000):(Rn.blt n k l).length≤5000000000000:=by
 have h1:=Rn.blt_len n w P l v k 4600000 h ho (by omega)
 have h2:Sx.wS n l * 4600000≤1000000 * 4600000:=Nat.mul_le_mul_right _ hw
 omega
def BTt (n:Nat):Prop:= ∀ (w:World) (P:Nat→Prop) (l:List Sx.Tr) (a:Option Addr) (c k:Nat),Tb w→SL w P n l (.slice a l.length c)→Rn.okB n l→k+n≤1500000→Sx.wS n l≤1000000→
 Calls Tryz.prog 48 #[.slice a l.length c,.string (bs (Rn.tabs k))] w fun e w'=>e= .returned (.string (bs ([32]++Rn.blt n k l)))∧Kp [] w w'
def STt (n:Nat) (D:Int):Prop:= ∀ (w:World) (P:Nat→Prop) (at':Int) (A B T:List UInt8) (N:Int) (E body els:List Sx.Tr) (aE aB aL:Option Addr) (cE cB cL k:Nat),Tb w→EL w P n E (.slice aE E.length cE)→SL w P n body (.slice aB body.length cB)→SL w P n els (.slice aL els.length cL)→Rn.Okf n D A B T N E body els→Rn.okB n body→Rn.okB n els→k+n≤1500000→Sx.wS n body≤1000000→Sx.wS n els≤1000000→
 Calls Tryz.prog 69 #[.agg #[.int .i64 D,.int .i64 at',.string (bs A),.string (bs B),.string (bs T),.int .i64 N,.slice aE E.length cE,.slice aB body.length cB,.slice aL els.length cL],.string (bs (Rn.tabs k))] w fun e w'=>e= .returned (.string (bs (Rn.st1 n k (Sx.tS D at' A B T N E body els))))∧Kp [] w w'
def Rn.el (sp:Bool) (l:List (List UInt8)):List UInt8:=(if sp || l.isEmpty then [] else [32])++Rn.com l
theorem Rn.el_take {sp:Bool} {l:List (List UInt8)} {i:Nat} {s:List UInt8} (h:l[i]? =some s):Rn.el sp (l.take (i+1))=Rn.el sp (l.take i)++((if i=0 then [] else [44])++(if i=0∧sp=true then [] else [32])++s):=by
 have hi:i<l.length:=(List.getElem?_eq_some_iff.1 h).1
 unfold Rn.el
 rw [Rn.com_take h]
 have e1:(l.take (i+1)).isEmpty=false:=by cases l with
  |nil=>simp at hi
  |cons a r=>rfl
 rw [e1]
 by_cases h0:i=0
 ·subst h0
  cases sp<;> simp [Rn.com]
 ·have e2:(l.take i).isEmpty=false:=by cases l with
   |nil=>simp at hi
   |cons a r=>cases i with
    |zero=>exact absurd rfl h0
    |succ i=>rfl
  rw [e2]
  cases sp<;> simp [h0]
theorem Rn.el_len (sp:Bool) (l:List (List UInt8)):(Rn.el sp l).length≤(Rn.com l).length+1:=by
 unfold Rn.el
 rw [List.length_append]
 split<;> simp
 omega
theorem Rn.com_few {n:Nat} {D:Int} {A B T:List UInt8} {N:Int} {E body els:List Sx.Tr} (h:Rn.Okf n D A B T N E body els) (i:Nat):(Rn.com ((E.map (Rn.xt n 0)).take i)).length≤3700:=by
 refine Nat.le_trans (Rn.com_take_le _ i) ?_
 have:=Rn.com_len (c:=600) (E.map (Rn.xt n 0)) (by
  intro s hs
  obtain ⟨d,hd,rfl⟩:=List.mem_map.1 hs
  obtain ⟨i,hi⟩:=List.getElem?_of_mem hd
  have h1:=Rn.xt_len n 0 d (h.xs i d hi)
  have h2:=h.prt i d hi
  omega)
 rw [List.length_map] at this
 have h6:=h.few
 have:E.length * (600+2)≤6 * 602:=Nat.mul_le_mul_right 602 h6
 omega
theorem Rn.isN_ne {l:List UInt8} (h:Tk.isN l=true):((bs l).toList == [])=false:=by
 rw [bsl]
 cases l with
 |nil=>cases h
 |cons a r=>rfl
set_option linter.unusedSimpArgs false in
set_option maxRecDepth 100000 in
set_option maxHeartbeats 2000000 in
theorem stmtText_5 (n:Nat):STt n 5:=by
 intro w P at' A B T N E body els aE aB aL cE cB cL k hT hE hB hL hf ob ol hk hwb hwl
 obtain ⟨rfl,rfl⟩:=hf.nil rfl
 obtain rfl:E=[]:=List.length_eq_zero_iff.1 (hf.one (by decide))
 have qA:=Rn.isN_ne (hf.naA rfl)
 have lA:=Rn.isN_len (hf.naA rfl)
 have zA:(bs A).size≤12:=by rw [bsz];exact Rn.isN_len (hf.naA rfl)
 have qB:=Rn.isN_ne (hf.naB rfl)
 have lB:=Rn.isN_len (hf.naB rfl)
 have zB:(bs B).size≤12:=by rw [bsz];exact Rn.isN_len (hf.naB rfl)
 have zk:(bs (Rn.tabs k)).size≤1500000:=by rw [bsz,Rn.tabs,List.length_replicate];omega
 have e0:(bs []).toList=[]:=bs0
 clear hE hB hL hf ob ol hT
 have ET:Hid (Rn.st1 n k (Sx.tS 5 at' A B T N [] [] [])=(Rn.tabs k++[99,108,111,110,101]++([32]++A)++([32]++B))++[59,10]):=by
  show _=_
  simp [Rn.st1,Rn.ahead,Rn.hasS,Sx.sH,Sx.sE,Sx.sB,Sx.sO,Sx.tS,Rn.com]
 generalize Rn.st1 n k (Sx.tS 5 at' A B T N [] [] [])=Z at *
 go_enter Tryz.func69,Tryz.ntmps69
 go_wp2_with fail
 go_loopw [6,7] (fun ov iv wr=>iv= .int .i64 0∧ov= .string (bs (Rn.tabs k++[99,108,111,110,101]++([32]++A)++([32]++B)))∧Hid (Kp [] w wr)∧wr.cell? ⟨w.heap.size,0,none⟩=some (.int .i64 5)∧wr.cell? ⟨w.heap.size,6,none⟩=some (.slice aE 0 cE)) (fun _ _ _=>0)
 case atStart=>exact ⟨rfl,by first|rfl|(congr 1;apply ByteArray.ext;simp [bs,Rn.el,Rn.com];done),((Kp.refl _ _).alloc _).alloc _,by simp [go_sem],by simp [go_sem]⟩
 case round=>
  obtain ⟨rfl,rfl,HK,u0,u6⟩:=hrel
  have zO:(bs (Rn.tabs k++[99,108,111,110,101]++([32]++A)++([32]++B))).size≤3000000:=by
   rw [bsz]
   simp only [List.length_append,Rn.tabs,List.length_replicate,List.length_cons,List.length_nil]
   omega
  generalize (Rn.tabs k++[99,108,111,110,101]++([32]++A)++([32]++B))=Y at *
  go_wp2
  go_ret
  exact ⟨by rw [ET.out,←bs_append];rfl,HK.out⟩
end Go.Proofs.YthcapfojofahkaaGreatDoor
namespace Go.Proofs.YthcapfojofahkaaGreatDoor
open Go.RowKit
set_option linter.unusedSimpArgs false in
set_option maxRecDepth 100000 in
set_option maxHeartbeats 2000000 in
theorem stmtText_6 (n:Nat):STt n 6:=by
 intro w P at' A B T N E body els aE aB aL cE cB cL k hT hE hB hL hf ob ol hk hwb hwl
 obtain rfl:B=[]:=hf.nilB rfl
 obtain ⟨rfl,rfl⟩:=hf.nil rfl
 have qA:=Rn.isN_ne (hf.naA rfl)
 have lA:=Rn.isN_len (hf.naA rfl)
 have zA:(bs A).size≤12:=by rw [bsz];exact Rn.isN_len (hf.naA rfl)
 have zk:(bs (Rn.tabs k)).size≤1500000:=by rw [bsz,Rn.tabs,List.length_replicate];omega
 have hE6:=hf.few
 have HEl:=hide hE
 have HTt:=hide hT
 have HXs:=hide hf.xs
 have HPr:=hide hf.prt
 have HCf:=hide (Rn.com_few hf)
 have HE1:Hid (E.length=1):=hf.one (by decide)
 have e0:(bs []).toList=[]:=bs0
 clear hE hB hL hf ob ol hT
 have ET:Hid (Rn.st1 n k (Sx.tS 6 at' A [] T N E [] [])=(Rn.tabs k++[115,101,110,100]++([32]++A)++Rn.el false (E.map (Rn.xt n 0)))++[59,10]):=by
  have hne:(E.map (Rn.xt n 0)).isEmpty=false:=by cases E with
   |nil=>cases HE1.out
   |cons a r=>rfl
  show _=_
  unfold Rn.el
  rw [hne]
  simp [Rn.st1,Rn.ahead,Rn.hasS,Sx.sH,Sx.sE,Sx.sB,Sx.sO,Sx.tS,Rn.com]
 generalize Rn.st1 n k (Sx.tS 6 at' A [] T N E [] [])=Z at *
 go_enter Tryz.func69,Tryz.ntmps69
 go_wp2_with fail
 go_loopw [6,7] (fun ov iv wr=> ∃ i:Nat,i≤E.length∧iv= .int .i64 i∧ov= .string (bs (Rn.tabs k++[115,101,110,100]++([32]++A)++Rn.el false ((E.map (Rn.xt n 0)).take i)))∧Hid (Kp [] w wr)∧wr.cell? ⟨w.heap.size,0,none⟩=some (.int .i64 6)∧wr.cell? ⟨w.heap.size,6,none⟩=some (.slice aE E.length cE)∧wr.cell? ⟨w.heap.size,7,none⟩=some (.slice aB 0 cB)∧wr.cell? ⟨w.heap.size,8,none⟩=some (.slice aL 0 cL)) (fun _ iv _=>E.length - (intOf iv).toNat)
 case atStart=>exact ⟨0,Nat.zero_le _,rfl,by first|rfl|(congr 1;apply ByteArray.ext;simp [bs,Rn.el,Rn.com];done),((Kp.refl _ _).alloc _).alloc _,by simp [go_sem],by simp [go_sem],by simp [go_sem],by simp [go_sem]⟩
 case round=>
  obtain ⟨i,hi,rfl,rfl,HK,u0,u6,u7,u8⟩:=hrel
  have hel:=Rn.el_len false ((E.map (Rn.xt n 0)).take i)
  have hcf:=HCf.out i
  have zO:(bs (Rn.tabs k++[115,101,110,100]++([32]++A)++Rn.el false ((E.map (Rn.xt n 0)).take i))).size≤3000000:=by
   rw [bsz]
   simp only [List.length_append,Rn.tabs,List.length_replicate,List.length_cons,List.length_nil]
   omega
  clear hel hcf
  by_cases hlt:i<E.length
  ·have d1:decide ((i:Int)<(E.length:Int))=true:=by simp;omega
   cases n with
   |zero=>cases HEl.out
   |succ n=>
    obtain ⟨b,off,op1,nm1,z1,L1,aL1,cL1,rfl,-,hd1,m0,m1,m2,m3,hL1⟩:=(HEl.out.keep HK.out (by simp)).nth i hlt
    have f1:=HXs.out i _ hd1
    have p1:=HPr.out i _ hd1
    have HX:=hide (exprText_any n wr P op1 z1 nm1 L1 aL1 cL1 0 (HTt.out.kp HK.out) hL1 f1 (by omega) (by omega))
    change Hid (Calls _ _ #[_,.int .i64 0] _ _) at HX
    have hm:(E.map (Rn.xt (n+1) 0))[i]? =some (Rn.xt (n+1) 0 (Sx.tE op1 nm1 z1 L1)):=by rw [List.getElem?_map,hd1];rfl
    have e1:=Rn.el_take (sp:=false) hm
    generalize hO:(Rn.tabs k++[115,101,110,100]++([32]++A)++Rn.el false ((E.map (Rn.xt (n+1) 0)).take i))=O at *
    have E1:Hid (Rn.tabs k++[115,101,110,100]++([32]++A)++Rn.el false ((E.map (Rn.xt (n+1) 0)).take (i+1))=O++((if i=0 then [] else [44])++(if i=0∧false=true then [] else [32])++Rn.xt (n+1) 0 (Sx.tE op1 nm1 z1 L1))):=hide (by rw [e1,←hO];simp only [List.append_assoc])
    clear e1 hO
    have hxl:=Rn.xt_len (n+1) 0 _ f1
    have zX:(bs (Rn.xt (n+1) 0 (Sx.tE op1 nm1 z1 L1))).size≤600:=by rw [bsz];omega
    have hk0:(0:Int)≤(i:Int):=by omega
    have hk1:(i:Int)<(E.length:Int):=by omega
    clear hd1 hL1 f1 p1 hm hxl
    generalize Rn.xt (n+1) 0 (Sx.tE op1 nm1 z1 L1)=X1 at *
    obtain rfl:i=0:=by have:=HE1.out;omega
    rw [Nat.zero_mul,Nat.add_zero] at m0 m1 m2 m3
    go_wp2_with fail
    refine HX.out.mono ?_
    rintro e w3 ⟨rfl,hk3⟩
    have K3:=hide (HK.out.trans hk3)
    have v0:=hk3.some u0 (by simp)
    have v6:=hk3.some u6 (by simp)
    have v7:=hk3.some u7 (by simp)
    have v8:=hk3.some u8 (by simp)
    clear hk3
    go_wp2
    go_roundw
    case rel=>exact ⟨1,by omega,by go_num,by rw [E1.out];first|(congr 1;done)|(congr 1;apply ByteArray.ext;simp [bs];done),K3.out,v0,v6,v7,v8⟩
    case measure=>first|(simp [intOf];done)|(simp [intOf];omega)
  ·obtain rfl:i=E.length:=by omega
   have d1:decide ((E.length:Int)<(E.length:Int))=false:=by simp
   rw [List.take_of_length_le (by simp)] at zO ⊢
   generalize (Rn.tabs k++[115,101,110,100]++([32]++A)++Rn.el false (E.map (Rn.xt n 0)))=Y at *
   go_wp2
   go_ret
   exact ⟨by rw [ET.out,←bs_append];rfl,HK.out⟩
end Go.Proofs.YthcapfojofahkaaGreatDoor
namespace Go.Proofs.YthcapfojofahkaaGreatDoor
open Go.RowKit
set_option linter.unusedSimpArgs false in
set_option maxRecDepth 100000 in
set_option maxHeartbeats 2000000 in
theorem stmtText_7 (n:Nat):STt n 7:=by
 intro w P at' A B T N E body els aE aB aL cE cB cL k hT hE hB hL hf ob ol hk hwb hwl
 obtain rfl:B=[]:=hf.nilB rfl
 obtain ⟨rfl,rfl⟩:=hf.nil rfl
 obtain rfl:E=[]:=List.length_eq_zero_iff.1 (hf.one (by decide))
 have qA:=Rn.isN_ne (hf.naA rfl)
 have lA:=Rn.isN_len (hf.naA rfl)
 have zA:(bs A).size≤12:=by rw [bsz];exact Rn.isN_len (hf.naA rfl)
 have zk:(bs (Rn.tabs k)).size≤1500000:=by rw [bsz,Rn.tabs,List.length_replicate];omega
 have e0:(bs []).toList=[]:=bs0
 clear hE hB hL hf ob ol hT
 have ET:Hid (Rn.st1 n k (Sx.tS 7 at' A [] T N [] [] [])=(Rn.tabs k++[99,108,111,115,101]++([32]++A))++[59,10]):=by
  show _=_
  simp [Rn.st1,Rn.ahead,Rn.hasS,Sx.sH,Sx.sE,Sx.sB,Sx.sO,Sx.tS,Rn.com]
 generalize Rn.st1 n k (Sx.tS 7 at' A [] T N [] [] [])=Z at *
 go_enter Tryz.func69,Tryz.ntmps69
 go_wp2_with fail
 go_loopw [6,7] (fun ov iv wr=>iv= .int .i64 0∧ov= .string (bs (Rn.tabs k++[99,108,111,115,101]++([32]++A)))∧Hid (Kp [] w wr)∧wr.cell? ⟨w.heap.size,0,none⟩=some (.int .i64 7)∧wr.cell? ⟨w.heap.size,6,none⟩=some (.slice aE 0 cE)) (fun _ _ _=>0)
 case atStart=>exact ⟨rfl,by first|rfl|(congr 1;apply ByteArray.ext;simp [bs,Rn.el,Rn.com];done),((Kp.refl _ _).alloc _).alloc _,by simp [go_sem],by simp [go_sem]⟩
 case round=>
  obtain ⟨rfl,rfl,HK,u0,u6⟩:=hrel
  have zO:(bs (Rn.tabs k++[99,108,111,115,101]++([32]++A))).size≤3000000:=by
   rw [bsz]
   simp only [List.length_append,Rn.tabs,List.length_replicate,List.length_cons,List.length_nil]
   omega
  generalize (Rn.tabs k++[99,108,111,115,101]++([32]++A))=Y at *
  go_wp2
  go_ret
  exact ⟨by rw [ET.out,←bs_append];rfl,HK.out⟩
end Go.Proofs.YthcapfojofahkaaGreatDoor
namespace Go.Proofs.YthcapfojofahkaaGreatDoor
open Go.RowKit
set_option linter.unusedSimpArgs false in
set_option maxRecDepth 100000 in
set_option maxHeartbeats 2000000 in
theorem stmtText_8 (n:Nat):STt n 8:=by
 intro w P at' A B T N E body els aE aB aL cE cB cL k hT hE hB hL hf ob ol hk hwb hwl
 obtain rfl:B=[]:=hf.nilB rfl
 obtain ⟨rfl,rfl⟩:=hf.nil rfl
 obtain rfl:E=[]:=List.length_eq_zero_iff.1 (hf.one (by decide))
 have qA:=Rn.isN_ne (hf.naA rfl)
 have lA:=Rn.isN_len (hf.naA rfl)
 have zA:(bs A).size≤12:=by rw [bsz];exact Rn.isN_len (hf.naA rfl)
 have zk:(bs (Rn.tabs k)).size≤1500000:=by rw [bsz,Rn.tabs,List.length_replicate];omega
 have e0:(bs []).toList=[]:=bs0
 clear hE hB hL hf ob ol hT
 have ET:Hid (Rn.st1 n k (Sx.tS 8 at' A [] T N [] [] [])=(Rn.tabs k++[97,98,97,110,100,111,110]++([32]++A))++[59,10]):=by
  show _=_
  simp [Rn.st1,Rn.ahead,Rn.hasS,Sx.sH,Sx.sE,Sx.sB,Sx.sO,Sx.tS,Rn.com]
 generalize Rn.st1 n k (Sx.tS 8 at' A [] T N [] [] [])=Z at *
 go_enter Tryz.func69,Tryz.ntmps69
 go_wp2_with fail
 go_loopw [6,7] (fun ov iv wr=>iv= .int .i64 0∧ov= .string (bs (Rn.tabs k++[97,98,97,110,100,111,110]++([32]++A)))∧Hid (Kp [] w wr)∧wr.cell? ⟨w.heap.size,0,none⟩=some (.int .i64 8)∧wr.cell? ⟨w.heap.size,6,none⟩=some (.slice aE 0 cE)) (fun _ _ _=>0)
 case atStart=>exact ⟨rfl,by first|rfl|(congr 1;apply ByteArray.ext;simp [bs,Rn.el,Rn.com];done),((Kp.refl _ _).alloc _).alloc _,by simp [go_sem],by simp [go_sem]⟩
 case round=>
  obtain ⟨rfl,rfl,HK,u0,u6⟩:=hrel
  have zO:(bs (Rn.tabs k++[97,98,97,110,100,111,110]++([32]++A))).size≤3000000:=by
   rw [bsz]
   simp only [List.length_append,Rn.tabs,List.length_replicate,List.length_cons,List.length_nil]
   omega
  generalize (Rn.tabs k++[97,98,97,110,100,111,110]++([32]++A))=Y at *
  go_wp2
  go_ret
  exact ⟨by rw [ET.out,←bs_append];rfl,HK.out⟩
end Go.Proofs.YthcapfojofahkaaGreatDoor
