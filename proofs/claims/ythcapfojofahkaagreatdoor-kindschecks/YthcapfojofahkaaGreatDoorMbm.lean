import Derived.Test.YthcapfojofahkaaGreatDoorMba
namespace Go.Proofs.YthcapfojofahkaaGreatDoor
open Go.RowKit
inductive Scr where
 |t (i:Nat) (k:Scr)
 |u (k:Scr)
 |r (rs:List Nat) (k:List Scr)
 |d
inductive Sc:Scr→Prop where
 |mk (s:Scr):Sc s
inductive Ss:List Scr→Prop where
 |mk (s:List Scr):Ss s
theorem Sc.t {i:Nat} {k:Scr} (_:Sc (.t i k)):Sc k:= .mk _
theorem Sc.u {k:Scr} (_:Sc (.u k)):Sc k:= .mk _
theorem Sc.r {rs:List Nat} {k:List Scr} (_:Sc (.r rs k)):Ss k:= .mk _
theorem Sc.d (_:Sc .d):True:=trivial
theorem Ss.hd {a:Scr} {k:List Scr} (_:Ss (a::k)):Sc a:= .mk _
theorem Ss.tl {a:Scr} {k:List Scr} (_:Ss (a::k)):Ss k:= .mk _
theorem Ss.nl (_:Ss []):True:=trivial
theorem cellN {U V:World} {B:Obj} {x:Value} (k:Nat) (hV:U.alloc B=V) (h:(U.alloc B).cell? ⟨U.heap.size,k,none⟩=some x):V.cell? ⟨U.heap.size,k,none⟩=some x:=hV ▸ h
theorem tkS {P:Program} {ops:Array Oper} {Q:Exit→Act→World→Prop} {md:Region.Mode} {S:World→Prop} {i:Nat} {k:Scr} (_:Sc (.t i k)) {oi:Oper} {v:Value} {fuel:Nat} {listed:Array Bool} {a:Act} {w:World}
  (h1:ops[i]? =some oi) (h2:Region.noSelect ops=true) (h3:Region.free md ops listed i=true) (h4:(Region.ready md ops listed).contains i=true)
  (h5: ∀ (c:List PanicEntry) (a:Act) (w:World),Q (Exit.panic c) (a.put oi.dst v) w→Q (Exit.panic c) a w) (h6:YieldsIf P ops S oi v a) (h7:S w)
  (h8:wpAnyH P md ops Q S fuel (listed.setIfInBounds i true) (a.put oi.dst v) w):wpAnyH P md ops Q S (fuel+1) listed a w:=wpAnyH_take h1 h2 h3 h4 h5 h6 h7 h8
theorem rdS {P:Program} {ops:Array Oper} {Q:Exit→Act→World→Prop} {md:Region.Mode} {S:World→Prop} {rs:List Nat} {k:List Scr} (_:Sc (.r rs k)) {fuel:Nat} {listed:Array Bool} {a:Act} {w:World}
  (h1:Region.ready md ops listed=rs) (h2:rs ≠ []) (h3:AllReadyH P md ops Q S fuel listed a w rs):wpAnyH P md ops Q S (fuel+1) listed a w:=wpAnyH_ready h1 h2 h3
end Go.Proofs.YthcapfojofahkaaGreatDoor
namespace Go.Proofs.YthcapfojofahkaaGreatDoor
open Go.RowKit
set_option linter.unusedSimpArgs false in
set_option maxRecDepth 100000 in
set_option maxHeartbeats 2000000 in
theorem exprText_op4 (n:Nat) (ih:XTt n) (w:World) (P:Nat→Prop) (d1 d2:Sx.Tr) (a:Option Addr) (c mm:Nat) (hT:Tb w) (hE:EL w P (n+1) [d1,d2] (.slice a 2 c)) (f1:Rn.xf (n+1) d1=0) (f2:Rn.xf (n+1) d2=0) (hp1:Rn.prt (n+1) d1≤1000000) (hp2:Rn.prt (n+1) d2≤1000000) (br:Bool) (hm:decide ((2:Int)<(mm:Int))=br):
  Calls Tryz.prog 97 #[.agg #[.int .i64 4,.string (bs []),.int .i64 0,.slice a 2 c],.int .i64 mm] w fun e w'=>e= .returned (.string (bs (Rn.brk br (Rn.xt (n+1) 1 d1++[32,43,32]++Rn.xt (n+1) 2 d2))))∧Kp [] w w':=by
 obtain ⟨b,off,op1,nm1,z1,L1,aL1,cL1,rfl,-,hd1,m0,m1,m2,m3,hL1⟩:=hE.nth 0 (by simp)
 obtain ⟨b',off',op2,nm2,z2,L2,aL2,cL2,hbb,-,hd2,n0,n1,n2,n3,hL2⟩:=hE.nth 1 (by simp)
 obtain ⟨rfl,rfl⟩:b=b'∧off=off':=by cases hbb;exact ⟨rfl,rfl⟩
 obtain rfl:d1=Sx.tE op1 nm1 z1 L1:=by simpa using hd1
 obtain rfl:d2=Sx.tE op2 nm2 z2 L2:=by simpa using hd2
 clear hd1 hd2 hbb hE
 rw [Nat.zero_mul,Nat.add_zero] at m0 m1 m2 m3
 rw [Nat.one_mul] at n0 n1 n2 n3
 have IH1:=hide (fun W (hk:Kp [] w W)=>ih W P op1 z1 nm1 L1 aL1 cL1 1 (hT.kp hk) (hL1.keep hk (by simp)) f1 (by omega) hp1)
 have IH2:=hide (fun W (hk:Kp [] w W)=>ih W P op2 z2 nm2 L2 aL2 cL2 2 (hT.kp hk) (hL2.keep hk (by simp)) f2 (by omega) hp2)
 have hxl:=Rn.xt_len (n+1) 1 _ f1
 have hxr:=Rn.xt_len (n+1) 2 _ f2
 have zl:(bs (Rn.xt (n+1) 1 (Sx.tE op1 nm1 z1 L1))).size≤30000000:=by rw [bsz];omega
 have zr:(bs (Rn.xt (n+1) 2 (Sx.tE op2 nm2 z2 L2))).size≤30000000:=by rw [bsz];omega
 clear hxl hxr hT hL1 hL2 f1 f2 ih hp1 hp2
 generalize Rn.xt (n+1) 1 (Sx.tE op1 nm1 z1 L1)=X1 at *
 generalize Rn.xt (n+1) 2 (Sx.tE op2 nm2 z2 L2)=X2 at *
 have hblt:=World.block_lt_of_cell? _ _ m0
 go_enter Tryz.func97,Tryz.ntmps97
 go_wp2
 generalize hW:(w.alloc _).alloc _=W
 have KW:Hid (Kp [] w W):=hide (by rw [←hW];exact ((Kp.refl _ _).alloc _).alloc _)
 have g0:W.cell? ⟨w.heap.size,0,none⟩=some (.int .i64 4):=by rw [←hW];simp [go_sem]
 have g3:W.cell? ⟨w.heap.size,3,none⟩=some (.slice (some ⟨b,off,none⟩) 2 c):=by rw [←hW];simp [go_sem]
 have M0:=KW.out.some m0 (by simp)
 have M1:=KW.out.some m1 (by simp)
 have M2:=KW.out.some m2 (by simp)
 have M3:=KW.out.some m3 (by simp)
 have N0:=KW.out.some n0 (by simp)
 have N1:=KW.out.some n1 (by simp)
 have N2:=KW.out.some n2 (by simp)
 have N3:=KW.out.some n3 (by simp)
 have ze:(bs X1++(⟨#[32,43,32]⟩:ByteArray)).size=(bs X1).size+3:=by
  rw [show (⟨#[32,43,32]⟩:ByteArray)=bs [32,43,32] from rfl,bs_append,bsz,bsz,List.length_append]
  rfl
 clear hW m0 m1 m2 m3 n0 n1 n2 n3
 have J1:Hid (∀ W',Kp [] W W'→Calls Tryz.prog 97 #[.agg #[.int .i64 op1,.string (bs nm1),.int .i64 z1,.slice aL1 L1.length cL1],.int .i64 2] W' fun e w'=>e= .returned (.string (bs X1))∧Kp [] W' w'):=hide (fun W' hk=>IH1.out W' (KW.out.trans hk))
 have J2:Hid (∀ W',Kp [] W W'→Calls Tryz.prog 97 #[.agg #[.int .i64 op2,.string (bs nm2),.int .i64 z2,.slice aL2 L2.length cL2],.int .i64 3] W' fun e w'=>e= .returned (.string (bs X2))∧Kp [] W' w'):=hide (fun W' hk=>IH2.out W' (KW.out.trans hk))
 clear IH1 IH2
 have HS:=hide (show W.cell? ⟨w.heap.size,3,none⟩=some (.slice (some ⟨b,off,none⟩) 2 c)∧W.cell? ⟨w.heap.size,0,none⟩=some (.int .i64 4)∧W.cell? ⟨b,off,none⟩=some (.int .i64 op1)∧W.cell? ⟨b,off+1,none⟩=some (.string (bs nm1))∧W.cell? ⟨b,off+2,none⟩=some (.int .i64 z1)∧W.cell? ⟨b,off+3,none⟩=some (.slice aL1 L1.length cL1)∧W.cell? ⟨b,off+4,none⟩=some (.int .i64 op2)∧W.cell? ⟨b,off+4+1,none⟩=some (.string (bs nm2))∧W.cell? ⟨b,off+4+2,none⟩=some (.int .i64 z2)∧W.cell? ⟨b,off+4+3,none⟩=some (.slice aL2 L2.length cL2) from ⟨g3,g0,M0,M1,M2,M3,N0,N1,N2,N3⟩)
 have HKS:Hid (∀ W',Kp [] W W'→W'.cell? ⟨w.heap.size,3,none⟩=some (.slice (some ⟨b,off,none⟩) 2 c)∧W'.cell? ⟨w.heap.size,0,none⟩=some (.int .i64 4)∧W'.cell? ⟨b,off,none⟩=some (.int .i64 op1)∧W'.cell? ⟨b,off+1,none⟩=some (.string (bs nm1))∧W'.cell? ⟨b,off+2,none⟩=some (.int .i64 z1)∧W'.cell? ⟨b,off+3,none⟩=some (.slice aL1 L1.length cL1)∧W'.cell? ⟨b,off+4,none⟩=some (.int .i64 op2)∧W'.cell? ⟨b,off+4+1,none⟩=some (.string (bs nm2))∧W'.cell? ⟨b,off+4+2,none⟩=some (.int .i64 z2)∧W'.cell? ⟨b,off+4+3,none⟩=some (.slice aL2 L2.length cL2)):=hide (fun W' hk=>⟨hk.some g3 (by simp),hk.some g0 (by simp),hk.some M0 (by simp),hk.some M1 (by simp),hk.some M2 (by simp),hk.some M3 (by simp),hk.some N0 (by simp),hk.some N1 (by simp),hk.some N2 (by simp),hk.some N3 (by simp)⟩)
 refine wp_region_held_drew (S:=fun w'=>w'.cell? ⟨w.heap.size,3,none⟩=some (.slice (some ⟨b,off,none⟩) 2 c)∧w'.cell? ⟨w.heap.size,0,none⟩=some (.int .i64 4)∧w'.cell? ⟨b,off,none⟩=some (.int .i64 op1)∧w'.cell? ⟨b,off+1,none⟩=some (.string (bs nm1))∧w'.cell? ⟨b,off+2,none⟩=some (.int .i64 z1)∧w'.cell? ⟨b,off+3,none⟩=some (.slice aL1 L1.length cL1)∧w'.cell? ⟨b,off+4,none⟩=some (.int .i64 op2)∧w'.cell? ⟨b,off+4+1,none⟩=some (.string (bs nm2))∧w'.cell? ⟨b,off+4+2,none⟩=some (.int .i64 z2)∧w'.cell? ⟨b,off+4+3,none⟩=some (.slice aL2 L2.length cL2)) (by kernel_rfl) (HKS.out _ ((Kp.refl _ _).drew)) (fun h=> ?_)
 have KV:Hid (Kp [] W W.drew):=hide ((Kp.refl _ _).drew)
 revert h KV
 generalize W.drew=V
 intro h KV
 have L:=Sc.mk (.t 0 (.t 1 (.t 2 (.t 3 (.t 4 (.t 7 (.t 8 (.t 9 (.t 13 (.t 14 (.t 15 (.t 16 (.t 17 (.t 18 (.r [5,6] [.r [6,19] [.t 10 (.r [11,19] [.t 12 (.r [19] [.t 20 (.u (.d))]),.r [11] [.t 12 (.t 20 (.u (.d)))]]),.r [6] [.t 10 (.r [11] [.t 12 (.t 20 (.u (.d)))])]],.t 10 (.r [5,11] [.r [11,19] [.t 12 (.r [19] [.t 20 (.u (.d))]),.r [11] [.t 12 (.t 20 (.u (.d)))]],.r [5] [.t 12 (.r [19] [.t 20 (.u (.d))])]])])))))))))))))))
 repeat' first
  |(have q:=L.t
    refine tkS L (v:= ?_) rfl (by kernel_rfl) (by kernel_rfl) (by kernel_rfl) (fun _ _ _ h=>h) (Or.inl ⟨by rfl,?_⟩) (by assumption) ?_
    rotate_left
    focus (intro w' hSw;(try dsimp only at hSw);go_simp;(first|done|with_reducible rfl|(rw [if_neg (by omega)];try with_reducible rfl)))
    try simp only [Act.put,List.setIfInBounds_toArray,List.set_cons_zero,List.set_cons_succ,wr_0,wr_1,wr_2,wr_3,wr_4]
    replace L:=L.t)
  |(have q:=L.u
    refine wpAnyH_take (i:=21) (oi:={ dst:=some 6,op:=Op.assign (Operand.tmp 38),type:=9,pos:= "render.go:204",after:=_,guard:=none }) (v:= ?_) rfl (by kernel_rfl) (by kernel_rfl) (by kernel_rfl) (fun _ _ _ h=>h) (Or.inl ⟨by rfl,?_⟩) (by assumption) ?_
    rotate_left
    focus (intro w' hSw;(try dsimp only at hSw);go_simp;(first|done|with_reducible rfl|(rw [if_neg (by omega)];try with_reducible rfl)))
    try simp only [Act.put,List.setIfInBounds_toArray,List.set_cons_zero,List.set_cons_succ,wr_0,wr_1,wr_2,wr_3,wr_4]
    replace L:=L.u)
  |(have q:=L.r
    refine rdS L (by kernel_rfl) (by simp) ?_
    replace L:=L.r)
  |(have q:=L.hd
    with_reducible refine AllReadyH.cons rfl (fun K hK=> ?_) ?_
    focus
     replace L:=L.hd
     go_simp
     first
     |(
      with_reducible refine (J1.out _ ?_).mono ?_
      focus exact KV.out
      rintro e V ⟨rfl,hk⟩
      try have e3:=hk.some e3 (by simp)
      have KV:Hid (Kp [] W V):=hide (KV.out.trans hk)
      clear hk
      try go_wp2)
     |(
      with_reducible refine (J2.out _ ?_).mono ?_
      focus exact KV.out
      rintro e V ⟨rfl,hk⟩
      try have e3:=hk.some e3 (by simp)
      have KV:Hid (Kp [] W V):=hide (KV.out.trans hk)
      clear hk
      try go_wp2)
     |(try go_wp2
       generalize hV:World.alloc _ _=V
       have KV:Hid (Kp [] W V):=hide (hV ▸ KV.out.alloc _)
       have e3:=cellN (x:= .string ⟨#[32,43,32]⟩) 0 hV (by simp [go_sem])
       clear hV)
     |(try go_wp2)
     refine hK.out _ _ (HKS.out _ KV.out) (fun h=> ?_)
     clear hK K
    any_goals replace L:=L.tl)
  |(have q:=L.nl
    exact AllReadyH.nil)
  |(have q:=L.d
    refine wpAnyH_done (by kernel_rfl) ?_ _
    try simp only [Act.put,List.setIfInBounds_toArray,List.set_cons_zero,List.set_cons_succ]
    cases br with
    |false=>
     go_wp2
     go_ret
     exact ⟨by rw [Rn.brk_false,←bs_append,←bs_append];rfl,KW.out.trans KV.out⟩
    |true=>
     go_wp2
     go_ret
     exact ⟨by rw [Rn.brk_true,←bs_append,←bs_append,←bs_append,←bs_append];rfl,KW.out.trans KV.out⟩)
end Go.Proofs.YthcapfojofahkaaGreatDoor
namespace Go.Proofs.YthcapfojofahkaaGreatDoor
open Go.RowKit
set_option linter.unusedSimpArgs false in
set_option maxRecDepth 100000 in
set_option maxHeartbeats 2000000 in
theorem exprText_op5 (n:Nat) (ih:XTt n) (w:World) (P:Nat→Prop) (d1 d2:Sx.Tr) (a:Option Addr) (c mm:Nat) (hT:Tb w) (hE:EL w P (n+1) [d1,d2] (.slice a 2 c)) (f1:Rn.xf (n+1) d1=0) (f2:Rn.xf (n+1) d2=0) (hp1:Rn.prt (n+1) d1≤1000000) (hp2:Rn.prt (n+1) d2≤1000000) (br:Bool) (hm:decide ((2:Int)<(mm:Int))=br):
  Calls Tryz.prog 97 #[.agg #[.int .i64 5,.string (bs []),.int .i64 0,.slice a 2 c],.int .i64 mm] w fun e w'=>e= .returned (.string (bs (Rn.brk br (Rn.xt (n+1) 1 d1++[32,45,32]++Rn.xt (n+1) 2 d2))))∧Kp [] w w':=by
 obtain ⟨b,off,op1,nm1,z1,L1,aL1,cL1,rfl,-,hd1,m0,m1,m2,m3,hL1⟩:=hE.nth 0 (by simp)
 obtain ⟨b',off',op2,nm2,z2,L2,aL2,cL2,hbb,-,hd2,n0,n1,n2,n3,hL2⟩:=hE.nth 1 (by simp)
 obtain ⟨rfl,rfl⟩:b=b'∧off=off':=by cases hbb;exact ⟨rfl,rfl⟩
 obtain rfl:d1=Sx.tE op1 nm1 z1 L1:=by simpa using hd1
 obtain rfl:d2=Sx.tE op2 nm2 z2 L2:=by simpa using hd2
 clear hd1 hd2 hbb hE
 rw [Nat.zero_mul,Nat.add_zero] at m0 m1 m2 m3
 rw [Nat.one_mul] at n0 n1 n2 n3
 have IH1:=hide (fun W (hk:Kp [] w W)=>ih W P op1 z1 nm1 L1 aL1 cL1 1 (hT.kp hk) (hL1.keep hk (by simp)) f1 (by omega) hp1)
 have IH2:=hide (fun W (hk:Kp [] w W)=>ih W P op2 z2 nm2 L2 aL2 cL2 2 (hT.kp hk) (hL2.keep hk (by simp)) f2 (by omega) hp2)
 have hxl:=Rn.xt_len (n+1) 1 _ f1
 have hxr:=Rn.xt_len (n+1) 2 _ f2
 have zl:(bs (Rn.xt (n+1) 1 (Sx.tE op1 nm1 z1 L1))).size≤30000000:=by rw [bsz];omega
 have zr:(bs (Rn.xt (n+1) 2 (Sx.tE op2 nm2 z2 L2))).size≤30000000:=by rw [bsz];omega
 clear hxl hxr hT hL1 hL2 f1 f2 ih hp1 hp2
 generalize Rn.xt (n+1) 1 (Sx.tE op1 nm1 z1 L1)=X1 at *
 generalize Rn.xt (n+1) 2 (Sx.tE op2 nm2 z2 L2)=X2 at *
 have hblt:=World.block_lt_of_cell? _ _ m0
 go_enter Tryz.func97,Tryz.ntmps97
 go_wp2
 generalize hW:(w.alloc _).alloc _=W
 have KW:Hid (Kp [] w W):=hide (by rw [←hW];exact ((Kp.refl _ _).alloc _).alloc _)
 have g0:W.cell? ⟨w.heap.size,0,none⟩=some (.int .i64 5):=by rw [←hW];simp [go_sem]
 have g3:W.cell? ⟨w.heap.size,3,none⟩=some (.slice (some ⟨b,off,none⟩) 2 c):=by rw [←hW];simp [go_sem]
 have M0:=KW.out.some m0 (by simp)
 have M1:=KW.out.some m1 (by simp)
 have M2:=KW.out.some m2 (by simp)
 have M3:=KW.out.some m3 (by simp)
 have N0:=KW.out.some n0 (by simp)
 have N1:=KW.out.some n1 (by simp)
 have N2:=KW.out.some n2 (by simp)
 have N3:=KW.out.some n3 (by simp)
 have ze:(bs X1++(⟨#[32,45,32]⟩:ByteArray)).size=(bs X1).size+3:=by
  rw [show (⟨#[32,45,32]⟩:ByteArray)=bs [32,45,32] from rfl,bs_append,bsz,bsz,List.length_append]
  rfl
 clear hW m0 m1 m2 m3 n0 n1 n2 n3
 have J1:Hid (∀ W',Kp [] W W'→Calls Tryz.prog 97 #[.agg #[.int .i64 op1,.string (bs nm1),.int .i64 z1,.slice aL1 L1.length cL1],.int .i64 2] W' fun e w'=>e= .returned (.string (bs X1))∧Kp [] W' w'):=hide (fun W' hk=>IH1.out W' (KW.out.trans hk))
 have J2:Hid (∀ W',Kp [] W W'→Calls Tryz.prog 97 #[.agg #[.int .i64 op2,.string (bs nm2),.int .i64 z2,.slice aL2 L2.length cL2],.int .i64 3] W' fun e w'=>e= .returned (.string (bs X2))∧Kp [] W' w'):=hide (fun W' hk=>IH2.out W' (KW.out.trans hk))
 clear IH1 IH2
 have HS:=hide (show W.cell? ⟨w.heap.size,3,none⟩=some (.slice (some ⟨b,off,none⟩) 2 c)∧W.cell? ⟨w.heap.size,0,none⟩=some (.int .i64 5)∧W.cell? ⟨b,off,none⟩=some (.int .i64 op1)∧W.cell? ⟨b,off+1,none⟩=some (.string (bs nm1))∧W.cell? ⟨b,off+2,none⟩=some (.int .i64 z1)∧W.cell? ⟨b,off+3,none⟩=some (.slice aL1 L1.length cL1)∧W.cell? ⟨b,off+4,none⟩=some (.int .i64 op2)∧W.cell? ⟨b,off+4+1,none⟩=some (.string (bs nm2))∧W.cell? ⟨b,off+4+2,none⟩=some (.int .i64 z2)∧W.cell? ⟨b,off+4+3,none⟩=some (.slice aL2 L2.length cL2) from ⟨g3,g0,M0,M1,M2,M3,N0,N1,N2,N3⟩)
 have HKS:Hid (∀ W',Kp [] W W'→W'.cell? ⟨w.heap.size,3,none⟩=some (.slice (some ⟨b,off,none⟩) 2 c)∧W'.cell? ⟨w.heap.size,0,none⟩=some (.int .i64 5)∧W'.cell? ⟨b,off,none⟩=some (.int .i64 op1)∧W'.cell? ⟨b,off+1,none⟩=some (.string (bs nm1))∧W'.cell? ⟨b,off+2,none⟩=some (.int .i64 z1)∧W'.cell? ⟨b,off+3,none⟩=some (.slice aL1 L1.length cL1)∧W'.cell? ⟨b,off+4,none⟩=some (.int .i64 op2)∧W'.cell? ⟨b,off+4+1,none⟩=some (.string (bs nm2))∧W'.cell? ⟨b,off+4+2,none⟩=some (.int .i64 z2)∧W'.cell? ⟨b,off+4+3,none⟩=some (.slice aL2 L2.length cL2)):=hide (fun W' hk=>⟨hk.some g3 (by simp),hk.some g0 (by simp),hk.some M0 (by simp),hk.some M1 (by simp),hk.some M2 (by simp),hk.some M3 (by simp),hk.some N0 (by simp),hk.some N1 (by simp),hk.some N2 (by simp),hk.some N3 (by simp)⟩)
 refine wp_region_held_drew (S:=fun w'=>w'.cell? ⟨w.heap.size,3,none⟩=some (.slice (some ⟨b,off,none⟩) 2 c)∧w'.cell? ⟨w.heap.size,0,none⟩=some (.int .i64 5)∧w'.cell? ⟨b,off,none⟩=some (.int .i64 op1)∧w'.cell? ⟨b,off+1,none⟩=some (.string (bs nm1))∧w'.cell? ⟨b,off+2,none⟩=some (.int .i64 z1)∧w'.cell? ⟨b,off+3,none⟩=some (.slice aL1 L1.length cL1)∧w'.cell? ⟨b,off+4,none⟩=some (.int .i64 op2)∧w'.cell? ⟨b,off+4+1,none⟩=some (.string (bs nm2))∧w'.cell? ⟨b,off+4+2,none⟩=some (.int .i64 z2)∧w'.cell? ⟨b,off+4+3,none⟩=some (.slice aL2 L2.length cL2)) (by kernel_rfl) (HKS.out _ ((Kp.refl _ _).drew)) (fun h=> ?_)
 have KV:Hid (Kp [] W W.drew):=hide ((Kp.refl _ _).drew)
 revert h KV
 generalize W.drew=V
 intro h KV
 have L:=Sc.mk (.t 0 (.t 1 (.t 2 (.t 3 (.t 4 (.t 7 (.t 8 (.t 9 (.t 13 (.t 14 (.t 15 (.t 16 (.t 17 (.t 18 (.r [5,6] [.r [6,19] [.t 10 (.r [11,19] [.t 12 (.r [19] [.t 20 (.u (.d))]),.r [11] [.t 12 (.t 20 (.u (.d)))]]),.r [6] [.t 10 (.r [11] [.t 12 (.t 20 (.u (.d)))])]],.t 10 (.r [5,11] [.r [11,19] [.t 12 (.r [19] [.t 20 (.u (.d))]),.r [11] [.t 12 (.t 20 (.u (.d)))]],.r [5] [.t 12 (.r [19] [.t 20 (.u (.d))])]])])))))))))))))))
 repeat' first
  |(have q:=L.t
    refine tkS L (v:= ?_) rfl (by kernel_rfl) (by kernel_rfl) (by kernel_rfl) (fun _ _ _ h=>h) (Or.inl ⟨by rfl,?_⟩) (by assumption) ?_
    rotate_left
    focus (intro w' hSw;(try dsimp only at hSw);go_simp;(first|done|with_reducible rfl|(rw [if_neg (by omega)];try with_reducible rfl)))
    try simp only [Act.put,List.setIfInBounds_toArray,List.set_cons_zero,List.set_cons_succ,wr_0,wr_1,wr_2,wr_3,wr_4]
    replace L:=L.t)
  |(have q:=L.u
    refine wpAnyH_take (i:=21) (oi:={ dst:=some 6,op:=Op.assign (Operand.tmp 38),type:=9,pos:= "render.go:204",after:=_,guard:=none }) (v:= ?_) rfl (by kernel_rfl) (by kernel_rfl) (by kernel_rfl) (fun _ _ _ h=>h) (Or.inl ⟨by rfl,?_⟩) (by assumption) ?_
    rotate_left
    focus (intro w' hSw;(try dsimp only at hSw);go_simp;(first|done|with_reducible rfl|(rw [if_neg (by omega)];try with_reducible rfl)))
    try simp only [Act.put,List.setIfInBounds_toArray,List.set_cons_zero,List.set_cons_succ,wr_0,wr_1,wr_2,wr_3,wr_4]
    replace L:=L.u)
  |(have q:=L.r
    refine rdS L (by kernel_rfl) (by simp) ?_
    replace L:=L.r)
  |(have q:=L.hd
    with_reducible refine AllReadyH.cons rfl (fun K hK=> ?_) ?_
    focus
     replace L:=L.hd
     go_simp
     first
     |(
      with_reducible refine (J1.out _ ?_).mono ?_
      focus exact KV.out
      rintro e V ⟨rfl,hk⟩
      try have e3:=hk.some e3 (by simp)
      have KV:Hid (Kp [] W V):=hide (KV.out.trans hk)
      clear hk
      try go_wp2)
     |(
      with_reducible refine (J2.out _ ?_).mono ?_
      focus exact KV.out
      rintro e V ⟨rfl,hk⟩
      try have e3:=hk.some e3 (by simp)
      have KV:Hid (Kp [] W V):=hide (KV.out.trans hk)
      clear hk
      try go_wp2)
     |(try go_wp2
       generalize hV:World.alloc _ _=V
       have KV:Hid (Kp [] W V):=hide (hV ▸ KV.out.alloc _)
       have e3:=cellN (x:= .string ⟨#[32,45,32]⟩) 1 hV (by simp [go_sem])
       clear hV)
     |(try go_wp2)
     refine hK.out _ _ (HKS.out _ KV.out) (fun h=> ?_)
     clear hK K
    any_goals replace L:=L.tl)
  |(have q:=L.nl
    exact AllReadyH.nil)
  |(have q:=L.d
    refine wpAnyH_done (by kernel_rfl) ?_ _
    try simp only [Act.put,List.setIfInBounds_toArray,List.set_cons_zero,List.set_cons_succ]
    cases br with
    |false=>
     go_wp2
     go_ret
     exact ⟨by rw [Rn.brk_false,←bs_append,←bs_append];rfl,KW.out.trans KV.out⟩
    |true=>
     go_wp2
     go_ret
     exact ⟨by rw [Rn.brk_true,←bs_append,←bs_append,←bs_append,←bs_append];rfl,KW.out.trans KV.out⟩)
set_option linter.unusedSimpArgs false in
set_option maxRecDepth 100000 in
set_option maxHeartbeats 2000000 in
theorem exprText_op6 (n:Nat) (ih:XTt n) (w:World) (P:Nat→Prop) (d1 d2:Sx.Tr) (a:Option Addr) (c mm:Nat) (hT:Tb w) (hE:EL w P (n+1) [d1,d2] (.slice a 2 c)) (f1:Rn.xf (n+1) d1=0) (f2:Rn.xf (n+1) d2=0) (hp1:Rn.prt (n+1) d1≤1000000) (hp2:Rn.prt (n+1) d2≤1000000) (br:Bool) (hm:decide ((3:Int)<(mm:Int))=br):
  Calls Tryz.prog 97 #[.agg #[.int .i64 6,.string (bs []),.int .i64 0,.slice a 2 c],.int .i64 mm] w fun e w'=>e= .returned (.string (bs (Rn.brk br (Rn.xt (n+1) 2 d1++[32,42,32]++Rn.xt (n+1) 3 d2))))∧Kp [] w w':=by
 obtain ⟨b,off,op1,nm1,z1,L1,aL1,cL1,rfl,-,hd1,m0,m1,m2,m3,hL1⟩:=hE.nth 0 (by simp)
 obtain ⟨b',off',op2,nm2,z2,L2,aL2,cL2,hbb,-,hd2,n0,n1,n2,n3,hL2⟩:=hE.nth 1 (by simp)
 obtain ⟨rfl,rfl⟩:b=b'∧off=off':=by cases hbb;exact ⟨rfl,rfl⟩
 obtain rfl:d1=Sx.tE op1 nm1 z1 L1:=by simpa using hd1
 obtain rfl:d2=Sx.tE op2 nm2 z2 L2:=by simpa using hd2
 clear hd1 hd2 hbb hE
 rw [Nat.zero_mul,Nat.add_zero] at m0 m1 m2 m3
 rw [Nat.one_mul] at n0 n1 n2 n3
 have IH1:=hide (fun W (hk:Kp [] w W)=>ih W P op1 z1 nm1 L1 aL1 cL1 2 (hT.kp hk) (hL1.keep hk (by simp)) f1 (by omega) hp1)
 have IH2:=hide (fun W (hk:Kp [] w W)=>ih W P op2 z2 nm2 L2 aL2 cL2 3 (hT.kp hk) (hL2.keep hk (by simp)) f2 (by omega) hp2)
 have hxl:=Rn.xt_len (n+1) 2 _ f1
 have hxr:=Rn.xt_len (n+1) 3 _ f2
 have zl:(bs (Rn.xt (n+1) 2 (Sx.tE op1 nm1 z1 L1))).size≤30000000:=by rw [bsz];omega
 have zr:(bs (Rn.xt (n+1) 3 (Sx.tE op2 nm2 z2 L2))).size≤30000000:=by rw [bsz];omega
 clear hxl hxr hT hL1 hL2 f1 f2 ih hp1 hp2
 generalize Rn.xt (n+1) 2 (Sx.tE op1 nm1 z1 L1)=X1 at *
 generalize Rn.xt (n+1) 3 (Sx.tE op2 nm2 z2 L2)=X2 at *
 have hblt:=World.block_lt_of_cell? _ _ m0
 go_enter Tryz.func97,Tryz.ntmps97
 go_wp2
 generalize hW:(w.alloc _).alloc _=W
 have KW:Hid (Kp [] w W):=hide (by rw [←hW];exact ((Kp.refl _ _).alloc _).alloc _)
 have g0:W.cell? ⟨w.heap.size,0,none⟩=some (.int .i64 6):=by rw [←hW];simp [go_sem]
 have g3:W.cell? ⟨w.heap.size,3,none⟩=some (.slice (some ⟨b,off,none⟩) 2 c):=by rw [←hW];simp [go_sem]
 have M0:=KW.out.some m0 (by simp)
 have M1:=KW.out.some m1 (by simp)
 have M2:=KW.out.some m2 (by simp)
 have M3:=KW.out.some m3 (by simp)
 have N0:=KW.out.some n0 (by simp)
 have N1:=KW.out.some n1 (by simp)
 have N2:=KW.out.some n2 (by simp)
 have N3:=KW.out.some n3 (by simp)
 have ze:(bs X1++(⟨#[32,42,32]⟩:ByteArray)).size=(bs X1).size+3:=by
  rw [show (⟨#[32,42,32]⟩:ByteArray)=bs [32,42,32] from rfl,bs_append,bsz,bsz,List.length_append]
  rfl
 clear hW m0 m1 m2 m3 n0 n1 n2 n3
 have J1:Hid (∀ W',Kp [] W W'→Calls Tryz.prog 97 #[.agg #[.int .i64 op1,.string (bs nm1),.int .i64 z1,.slice aL1 L1.length cL1],.int .i64 3] W' fun e w'=>e= .returned (.string (bs X1))∧Kp [] W' w'):=hide (fun W' hk=>IH1.out W' (KW.out.trans hk))
 have J2:Hid (∀ W',Kp [] W W'→Calls Tryz.prog 97 #[.agg #[.int .i64 op2,.string (bs nm2),.int .i64 z2,.slice aL2 L2.length cL2],.int .i64 4] W' fun e w'=>e= .returned (.string (bs X2))∧Kp [] W' w'):=hide (fun W' hk=>IH2.out W' (KW.out.trans hk))
 clear IH1 IH2
 have HS:=hide (show W.cell? ⟨w.heap.size,3,none⟩=some (.slice (some ⟨b,off,none⟩) 2 c)∧W.cell? ⟨w.heap.size,0,none⟩=some (.int .i64 6)∧W.cell? ⟨b,off,none⟩=some (.int .i64 op1)∧W.cell? ⟨b,off+1,none⟩=some (.string (bs nm1))∧W.cell? ⟨b,off+2,none⟩=some (.int .i64 z1)∧W.cell? ⟨b,off+3,none⟩=some (.slice aL1 L1.length cL1)∧W.cell? ⟨b,off+4,none⟩=some (.int .i64 op2)∧W.cell? ⟨b,off+4+1,none⟩=some (.string (bs nm2))∧W.cell? ⟨b,off+4+2,none⟩=some (.int .i64 z2)∧W.cell? ⟨b,off+4+3,none⟩=some (.slice aL2 L2.length cL2) from ⟨g3,g0,M0,M1,M2,M3,N0,N1,N2,N3⟩)
 have HKS:Hid (∀ W',Kp [] W W'→W'.cell? ⟨w.heap.size,3,none⟩=some (.slice (some ⟨b,off,none⟩) 2 c)∧W'.cell? ⟨w.heap.size,0,none⟩=some (.int .i64 6)∧W'.cell? ⟨b,off,none⟩=some (.int .i64 op1)∧W'.cell? ⟨b,off+1,none⟩=some (.string (bs nm1))∧W'.cell? ⟨b,off+2,none⟩=some (.int .i64 z1)∧W'.cell? ⟨b,off+3,none⟩=some (.slice aL1 L1.length cL1)∧W'.cell? ⟨b,off+4,none⟩=some (.int .i64 op2)∧W'.cell? ⟨b,off+4+1,none⟩=some (.string (bs nm2))∧W'.cell? ⟨b,off+4+2,none⟩=some (.int .i64 z2)∧W'.cell? ⟨b,off+4+3,none⟩=some (.slice aL2 L2.length cL2)):=hide (fun W' hk=>⟨hk.some g3 (by simp),hk.some g0 (by simp),hk.some M0 (by simp),hk.some M1 (by simp),hk.some M2 (by simp),hk.some M3 (by simp),hk.some N0 (by simp),hk.some N1 (by simp),hk.some N2 (by simp),hk.some N3 (by simp)⟩)
 refine wp_region_held_drew (S:=fun w'=>w'.cell? ⟨w.heap.size,3,none⟩=some (.slice (some ⟨b,off,none⟩) 2 c)∧w'.cell? ⟨w.heap.size,0,none⟩=some (.int .i64 6)∧w'.cell? ⟨b,off,none⟩=some (.int .i64 op1)∧w'.cell? ⟨b,off+1,none⟩=some (.string (bs nm1))∧w'.cell? ⟨b,off+2,none⟩=some (.int .i64 z1)∧w'.cell? ⟨b,off+3,none⟩=some (.slice aL1 L1.length cL1)∧w'.cell? ⟨b,off+4,none⟩=some (.int .i64 op2)∧w'.cell? ⟨b,off+4+1,none⟩=some (.string (bs nm2))∧w'.cell? ⟨b,off+4+2,none⟩=some (.int .i64 z2)∧w'.cell? ⟨b,off+4+3,none⟩=some (.slice aL2 L2.length cL2)) (by kernel_rfl) (HKS.out _ ((Kp.refl _ _).drew)) (fun h=> ?_)
 have KV:Hid (Kp [] W W.drew):=hide ((Kp.refl _ _).drew)
 revert h KV
 generalize W.drew=V
 intro h KV
 have L:=Sc.mk (.t 0 (.t 1 (.t 2 (.t 3 (.t 4 (.t 7 (.t 8 (.t 9 (.t 13 (.t 14 (.t 15 (.t 16 (.t 17 (.t 18 (.r [5,6] [.r [6,19] [.t 10 (.r [11,19] [.t 12 (.r [19] [.t 20 (.u (.d))]),.r [11] [.t 12 (.t 20 (.u (.d)))]]),.r [6] [.t 10 (.r [11] [.t 12 (.t 20 (.u (.d)))])]],.t 10 (.r [5,11] [.r [11,19] [.t 12 (.r [19] [.t 20 (.u (.d))]),.r [11] [.t 12 (.t 20 (.u (.d)))]],.r [5] [.t 12 (.r [19] [.t 20 (.u (.d))])]])])))))))))))))))
 repeat' first
  |(have q:=L.t
    refine tkS L (v:= ?_) rfl (by kernel_rfl) (by kernel_rfl) (by kernel_rfl) (fun _ _ _ h=>h) (Or.inl ⟨by rfl,?_⟩) (by assumption) ?_
    rotate_left
    focus (intro w' hSw;(try dsimp only at hSw);go_simp;(first|done|with_reducible rfl|(rw [if_neg (by omega)];try with_reducible rfl)))
    try simp only [Act.put,List.setIfInBounds_toArray,List.set_cons_zero,List.set_cons_succ,wr_0,wr_1,wr_2,wr_3,wr_4]
    replace L:=L.t)
  |(have q:=L.u
    refine wpAnyH_take (i:=21) (oi:={ dst:=some 6,op:=Op.assign (Operand.tmp 38),type:=9,pos:= "render.go:204",after:=_,guard:=none }) (v:= ?_) rfl (by kernel_rfl) (by kernel_rfl) (by kernel_rfl) (fun _ _ _ h=>h) (Or.inl ⟨by rfl,?_⟩) (by assumption) ?_
    rotate_left
    focus (intro w' hSw;(try dsimp only at hSw);go_simp;(first|done|with_reducible rfl|(rw [if_neg (by omega)];try with_reducible rfl)))
    try simp only [Act.put,List.setIfInBounds_toArray,List.set_cons_zero,List.set_cons_succ,wr_0,wr_1,wr_2,wr_3,wr_4]
    replace L:=L.u)
  |(have q:=L.r
    refine rdS L (by kernel_rfl) (by simp) ?_
    replace L:=L.r)
  |(have q:=L.hd
    with_reducible refine AllReadyH.cons rfl (fun K hK=> ?_) ?_
    focus
     replace L:=L.hd
     go_simp
     first
     |(
      with_reducible refine (J1.out _ ?_).mono ?_
      focus exact KV.out
      rintro e V ⟨rfl,hk⟩
      try have e3:=hk.some e3 (by simp)
      have KV:Hid (Kp [] W V):=hide (KV.out.trans hk)
      clear hk
      try go_wp2)
     |(
      with_reducible refine (J2.out _ ?_).mono ?_
      focus exact KV.out
      rintro e V ⟨rfl,hk⟩
      try have e3:=hk.some e3 (by simp)
      have KV:Hid (Kp [] W V):=hide (KV.out.trans hk)
      clear hk
      try go_wp2)
     |(try go_wp2
       generalize hV:World.alloc _ _=V
       have KV:Hid (Kp [] W V):=hide (hV ▸ KV.out.alloc _)
       have e3:=cellN (x:= .string ⟨#[32,42,32]⟩) 2 hV (by simp [go_sem])
       clear hV)
     |(try go_wp2)
     refine hK.out _ _ (HKS.out _ KV.out) (fun h=> ?_)
     clear hK K
    any_goals replace L:=L.tl)
  |(have q:=L.nl
    exact AllReadyH.nil)
  |(have q:=L.d
    refine wpAnyH_done (by kernel_rfl) ?_ _
    try simp only [Act.put,List.setIfInBounds_toArray,List.set_cons_zero,List.set_cons_succ]
    cases br with
    |false=>
     go_wp2
     go_ret
     exact ⟨by rw [Rn.brk_false,←bs_append,←bs_append];rfl,KW.out.trans KV.out⟩
    |true=>
     go_wp2
     go_ret
     exact ⟨by rw [Rn.brk_true,←bs_append,←bs_append,←bs_append,←bs_append];rfl,KW.out.trans KV.out⟩)
end Go.Proofs.YthcapfojofahkaaGreatDoor
namespace Go.Proofs.YthcapfojofahkaaGreatDoor
open Go.RowKit
set_option linter.unusedSimpArgs false in
set_option maxRecDepth 100000 in
set_option maxHeartbeats 2000000 in
theorem exprText_op7 (n:Nat) (ih:XTt n) (w:World) (P:Nat→Prop) (d1 d2:Sx.Tr) (a:Option Addr) (c mm:Nat) (hT:Tb w) (hE:EL w P (n+1) [d1,d2] (.slice a 2 c)) (f1:Rn.xf (n+1) d1=0) (f2:Rn.xf (n+1) d2=0) (hp1:Rn.prt (n+1) d1≤1000000) (hp2:Rn.prt (n+1) d2≤1000000) (br:Bool) (hm:decide ((1:Int)<(mm:Int))=br):
  Calls Tryz.prog 97 #[.agg #[.int .i64 7,.string (bs []),.int .i64 0,.slice a 2 c],.int .i64 mm] w fun e w'=>e= .returned (.string (bs (Rn.brk br (Rn.xt (n+1) 1 d1++[32,60,32]++Rn.xt (n+1) 1 d2))))∧Kp [] w w':=by
 obtain ⟨b,off,op1,nm1,z1,L1,aL1,cL1,rfl,-,hd1,m0,m1,m2,m3,hL1⟩:=hE.nth 0 (by simp)
 obtain ⟨b',off',op2,nm2,z2,L2,aL2,cL2,hbb,-,hd2,n0,n1,n2,n3,hL2⟩:=hE.nth 1 (by simp)
 obtain ⟨rfl,rfl⟩:b=b'∧off=off':=by cases hbb;exact ⟨rfl,rfl⟩
 obtain rfl:d1=Sx.tE op1 nm1 z1 L1:=by simpa using hd1
 obtain rfl:d2=Sx.tE op2 nm2 z2 L2:=by simpa using hd2
 clear hd1 hd2 hbb hE
 rw [Nat.zero_mul,Nat.add_zero] at m0 m1 m2 m3
 rw [Nat.one_mul] at n0 n1 n2 n3
 have IH1:=hide (fun W (hk:Kp [] w W)=>ih W P op1 z1 nm1 L1 aL1 cL1 1 (hT.kp hk) (hL1.keep hk (by simp)) f1 (by omega) hp1)
 have IH2:=hide (fun W (hk:Kp [] w W)=>ih W P op2 z2 nm2 L2 aL2 cL2 1 (hT.kp hk) (hL2.keep hk (by simp)) f2 (by omega) hp2)
 have hxl:=Rn.xt_len (n+1) 1 _ f1
 have hxr:=Rn.xt_len (n+1) 1 _ f2
 have zl:(bs (Rn.xt (n+1) 1 (Sx.tE op1 nm1 z1 L1))).size≤30000000:=by rw [bsz];omega
 have zr:(bs (Rn.xt (n+1) 1 (Sx.tE op2 nm2 z2 L2))).size≤30000000:=by rw [bsz];omega
 clear hxl hxr hT hL1 hL2 f1 f2 ih hp1 hp2
 generalize Rn.xt (n+1) 1 (Sx.tE op1 nm1 z1 L1)=X1 at *
 generalize Rn.xt (n+1) 1 (Sx.tE op2 nm2 z2 L2)=X2 at *
 have hblt:=World.block_lt_of_cell? _ _ m0
 go_enter Tryz.func97,Tryz.ntmps97
 go_wp2
 generalize hW:(w.alloc _).alloc _=W
 have KW:Hid (Kp [] w W):=hide (by rw [←hW];exact ((Kp.refl _ _).alloc _).alloc _)
 have g0:W.cell? ⟨w.heap.size,0,none⟩=some (.int .i64 7):=by rw [←hW];simp [go_sem]
 have g3:W.cell? ⟨w.heap.size,3,none⟩=some (.slice (some ⟨b,off,none⟩) 2 c):=by rw [←hW];simp [go_sem]
 have M0:=KW.out.some m0 (by simp)
 have M1:=KW.out.some m1 (by simp)
 have M2:=KW.out.some m2 (by simp)
 have M3:=KW.out.some m3 (by simp)
 have N0:=KW.out.some n0 (by simp)
 have N1:=KW.out.some n1 (by simp)
 have N2:=KW.out.some n2 (by simp)
 have N3:=KW.out.some n3 (by simp)
 have ze:(bs X1++(⟨#[32,60,32]⟩:ByteArray)).size=(bs X1).size+3:=by
  rw [show (⟨#[32,60,32]⟩:ByteArray)=bs [32,60,32] from rfl,bs_append,bsz,bsz,List.length_append]
  rfl
 clear hW m0 m1 m2 m3 n0 n1 n2 n3
 have J1:Hid (∀ W',Kp [] W W'→Calls Tryz.prog 97 #[.agg #[.int .i64 op1,.string (bs nm1),.int .i64 z1,.slice aL1 L1.length cL1],.int .i64 2] W' fun e w'=>e= .returned (.string (bs X1))∧Kp [] W' w'):=hide (fun W' hk=>IH1.out W' (KW.out.trans hk))
 have J2:Hid (∀ W',Kp [] W W'→Calls Tryz.prog 97 #[.agg #[.int .i64 op2,.string (bs nm2),.int .i64 z2,.slice aL2 L2.length cL2],.int .i64 2] W' fun e w'=>e= .returned (.string (bs X2))∧Kp [] W' w'):=hide (fun W' hk=>IH2.out W' (KW.out.trans hk))
 clear IH1 IH2
 have HS:=hide (show W.cell? ⟨w.heap.size,3,none⟩=some (.slice (some ⟨b,off,none⟩) 2 c)∧W.cell? ⟨w.heap.size,0,none⟩=some (.int .i64 7)∧W.cell? ⟨b,off,none⟩=some (.int .i64 op1)∧W.cell? ⟨b,off+1,none⟩=some (.string (bs nm1))∧W.cell? ⟨b,off+2,none⟩=some (.int .i64 z1)∧W.cell? ⟨b,off+3,none⟩=some (.slice aL1 L1.length cL1)∧W.cell? ⟨b,off+4,none⟩=some (.int .i64 op2)∧W.cell? ⟨b,off+4+1,none⟩=some (.string (bs nm2))∧W.cell? ⟨b,off+4+2,none⟩=some (.int .i64 z2)∧W.cell? ⟨b,off+4+3,none⟩=some (.slice aL2 L2.length cL2) from ⟨g3,g0,M0,M1,M2,M3,N0,N1,N2,N3⟩)
 have HKS:Hid (∀ W',Kp [] W W'→W'.cell? ⟨w.heap.size,3,none⟩=some (.slice (some ⟨b,off,none⟩) 2 c)∧W'.cell? ⟨w.heap.size,0,none⟩=some (.int .i64 7)∧W'.cell? ⟨b,off,none⟩=some (.int .i64 op1)∧W'.cell? ⟨b,off+1,none⟩=some (.string (bs nm1))∧W'.cell? ⟨b,off+2,none⟩=some (.int .i64 z1)∧W'.cell? ⟨b,off+3,none⟩=some (.slice aL1 L1.length cL1)∧W'.cell? ⟨b,off+4,none⟩=some (.int .i64 op2)∧W'.cell? ⟨b,off+4+1,none⟩=some (.string (bs nm2))∧W'.cell? ⟨b,off+4+2,none⟩=some (.int .i64 z2)∧W'.cell? ⟨b,off+4+3,none⟩=some (.slice aL2 L2.length cL2)):=hide (fun W' hk=>⟨hk.some g3 (by simp),hk.some g0 (by simp),hk.some M0 (by simp),hk.some M1 (by simp),hk.some M2 (by simp),hk.some M3 (by simp),hk.some N0 (by simp),hk.some N1 (by simp),hk.some N2 (by simp),hk.some N3 (by simp)⟩)
 refine wp_region_held_drew (S:=fun w'=>w'.cell? ⟨w.heap.size,3,none⟩=some (.slice (some ⟨b,off,none⟩) 2 c)∧w'.cell? ⟨w.heap.size,0,none⟩=some (.int .i64 7)∧w'.cell? ⟨b,off,none⟩=some (.int .i64 op1)∧w'.cell? ⟨b,off+1,none⟩=some (.string (bs nm1))∧w'.cell? ⟨b,off+2,none⟩=some (.int .i64 z1)∧w'.cell? ⟨b,off+3,none⟩=some (.slice aL1 L1.length cL1)∧w'.cell? ⟨b,off+4,none⟩=some (.int .i64 op2)∧w'.cell? ⟨b,off+4+1,none⟩=some (.string (bs nm2))∧w'.cell? ⟨b,off+4+2,none⟩=some (.int .i64 z2)∧w'.cell? ⟨b,off+4+3,none⟩=some (.slice aL2 L2.length cL2)) (by kernel_rfl) (HKS.out _ ((Kp.refl _ _).drew)) (fun h=> ?_)
 have KV:Hid (Kp [] W W.drew):=hide ((Kp.refl _ _).drew)
 revert h KV
 generalize W.drew=V
 intro h KV
 have L:=Sc.mk (.t 0 (.t 1 (.t 2 (.t 3 (.t 4 (.t 7 (.t 8 (.t 9 (.t 13 (.t 14 (.t 15 (.t 16 (.t 17 (.t 18 (.r [5,6] [.r [6,19] [.t 10 (.r [11,19] [.t 12 (.r [19] [.t 20 (.u (.d))]),.r [11] [.t 12 (.t 20 (.u (.d)))]]),.r [6] [.t 10 (.r [11] [.t 12 (.t 20 (.u (.d)))])]],.t 10 (.r [5,11] [.r [11,19] [.t 12 (.r [19] [.t 20 (.u (.d))]),.r [11] [.t 12 (.t 20 (.u (.d)))]],.r [5] [.t 12 (.r [19] [.t 20 (.u (.d))])]])])))))))))))))))
 repeat' first
  |(have q:=L.t
    refine tkS L (v:= ?_) rfl (by kernel_rfl) (by kernel_rfl) (by kernel_rfl) (fun _ _ _ h=>h) (Or.inl ⟨by rfl,?_⟩) (by assumption) ?_
    rotate_left
    focus (intro w' hSw;(try dsimp only at hSw);go_simp;(first|done|with_reducible rfl|(rw [if_neg (by omega)];try with_reducible rfl)))
    try simp only [Act.put,List.setIfInBounds_toArray,List.set_cons_zero,List.set_cons_succ,wr_0,wr_1,wr_2,wr_3,wr_4]
    replace L:=L.t)
  |(have q:=L.u
    refine wpAnyH_take (i:=21) (oi:={ dst:=some 6,op:=Op.assign (Operand.tmp 38),type:=9,pos:= "render.go:204",after:=_,guard:=none }) (v:= ?_) rfl (by kernel_rfl) (by kernel_rfl) (by kernel_rfl) (fun _ _ _ h=>h) (Or.inl ⟨by rfl,?_⟩) (by assumption) ?_
    rotate_left
    focus (intro w' hSw;(try dsimp only at hSw);go_simp;(first|done|with_reducible rfl|(rw [if_neg (by omega)];try with_reducible rfl)))
    try simp only [Act.put,List.setIfInBounds_toArray,List.set_cons_zero,List.set_cons_succ,wr_0,wr_1,wr_2,wr_3,wr_4]
    replace L:=L.u)
  |(have q:=L.r
    refine rdS L (by kernel_rfl) (by simp) ?_
    replace L:=L.r)
  |(have q:=L.hd
    with_reducible refine AllReadyH.cons rfl (fun K hK=> ?_) ?_
    focus
     replace L:=L.hd
     go_simp
     first
     |(
      with_reducible refine (J1.out _ ?_).mono ?_
      focus exact KV.out
      rintro e V ⟨rfl,hk⟩
      try have e3:=hk.some e3 (by simp)
      have KV:Hid (Kp [] W V):=hide (KV.out.trans hk)
      clear hk
      try go_wp2)
     |(
      with_reducible refine (J2.out _ ?_).mono ?_
      focus exact KV.out
      rintro e V ⟨rfl,hk⟩
      try have e3:=hk.some e3 (by simp)
      have KV:Hid (Kp [] W V):=hide (KV.out.trans hk)
      clear hk
      try go_wp2)
     |(try go_wp2
       generalize hV:World.alloc _ _=V
       have KV:Hid (Kp [] W V):=hide (hV ▸ KV.out.alloc _)
       have e3:=cellN (x:= .string ⟨#[32,60,32]⟩) 3 hV (by simp [go_sem])
       clear hV)
     |(try go_wp2)
     refine hK.out _ _ (HKS.out _ KV.out) (fun h=> ?_)
     clear hK K
    any_goals replace L:=L.tl)
  |(have q:=L.nl
    exact AllReadyH.nil)
  |(have q:=L.d
    refine wpAnyH_done (by kernel_rfl) ?_ _
    try simp only [Act.put,List.setIfInBounds_toArray,List.set_cons_zero,List.set_cons_succ]
    cases br with
    |false=>
     go_wp2
     go_ret
     exact ⟨by rw [Rn.brk_false,←bs_append,←bs_append];rfl,KW.out.trans KV.out⟩
    |true=>
     go_wp2
     go_ret
     exact ⟨by rw [Rn.brk_true,←bs_append,←bs_append,←bs_append,←bs_append];rfl,KW.out.trans KV.out⟩)
end Go.Proofs.YthcapfojofahkaaGreatDoor
