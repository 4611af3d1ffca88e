import Derived.Test.YtcdcoiobpbdmpaaGreatDoorMal
import Derived.Test.YtcdcoiobpbdmpaaGreatDoorMak
namespace Go.Proofs.YtcdcoiobpbdmpaaGreatDoor
open Go.RowKit
theorem Lw.loop_some {st:Lw.St→Int→Sx.Tr→Option Lw.St} {s s':Lw.St} {blk at':Int} {h:Cd.In} {b:Int × Int × Int} {body:List Sx.Tr} {nms:List ByteArray} (hs:Lw.loop st s blk at' h b body nms=some s'):
  ∃ s1 s2,Lw.put s blk at' ⟨h.op,h.a,h.b,h.n,h.to,h.t,h.e,h.args,h.bk,s.bs.length,h.at'⟩=some s1∧Lw.within st s1 blk at' b body (fun s3 nb=>(Lw.over s3 nb at' nms).bind fun s4=>Lw.put s4 nb at' (Cd.jmp s.is.length))=some s2∧Lw.setTo s2 s.is.length s2.is.length=some s':=by
 obtain ⟨s1,h1,h2⟩:=Option.bind_eq_some_iff.1 hs
 obtain ⟨s2,h3,h4⟩:=Option.bind_eq_some_iff.1 h2
 exact ⟨s1,s2,h1,h3,h4⟩
theorem MK.fresh {C:MC} {m:MA} {s:Lw.St} {bk at':Int} {w:World} (h:MK C m s bk at' w) {j:Nat} (hj:w.heap.size≤j): ¬ m.mut C.g j∧ ¬ C.J j:=⟨h.new hj,fun e=>by have:=h.jl j e;omega⟩
set_option maxRecDepth 100000 in
set_option maxHeartbeats 4000000 in
theorem loop_any (ab:List Lw.Ab) (n:Nat) (HC:LSmT ab n) {C:MC} {m:MA} {s s':Lw.St} {bk at':Int} {w:World} (h:MK C m s bk at' w) (P:Nat→Prop) (hP: ∀ j,P j→j<w.heap.size∧ ¬ m.mut C.g j) (hA:ABm w P C.uA ab) (x:Cd.In) (ae:Option Addr) (ce:Nat) (aa:Option Addr) (ca:Nat)
  (hE:ERn w (fun j=>j<w.heap.size∧ ¬ m.mut C.g j∧ ¬ C.J j) (.slice ae x.e.length ce) x.e) (hG:AGn w (fun j=>j<w.heap.size∧ ¬ m.mut C.g j∧ ¬ C.J j) (.slice aa x.args.length ca) x.args)
  (b1 b0 b2 b3:Int) (body:List Sx.Tr) (a:Option Addr) (cap:Nat) (hL:Sl (RS w P n) w P body (.slice a body.length cap)) (an:Option Addr) (cn:Nat) (l:List ByteArray) (ht:TxR w (.slice an l.length cn) l) (hX: ∀ j,ob an=some j→j<w.heap.size∧ ¬ m.mut C.g j) (hll:l.length≤1000000)
  (hs:Lw.loop (Lw.stmt ab n) s bk at' x (b1,b2,b3) body l=some s'):
  Calls Tryz.prog 78 #[.pointer (some ⟨C.g,0,none⟩),IV x ae ce aa ca,.agg #[.int .i64 b1,.int .i64 b0,.int .i64 b2,.int .i64 b3],.slice a body.length cap,.slice an l.length cn] w fun e w'=>e= .returned (.tuple #[])∧ ∃ m',MK C m' s' bk at' w'∧MS C.g m w m' w':=by
 obtain ⟨s1,s2,hs1,hs2,hs3⟩:=Lw.loop_some hs
 obtain ⟨xop,xa,xb,xn,xto,xt,xe,xargs,xbk,xlp,xat⟩:=x
 unfold IV
 dsimp only at *
 have c3:=h.c3
 have hgl:=h.gl
 have HM:=hide h
 have HPP:=hide hP
 have HAA:=hide hA
 have HLL:=hide hL
 have HTT:=hide ht
 have HXX:=hide hX
 have HEE:=hide hE
 have HGG:=hide hG
 have HS1:=hide hs1
 have HS2:=hide hs2
 have HS3:=hide hs3
 have HCC:=hide HC
 clear hs hs1 hs2 hs3 h hP hA hL ht hX hE hG HC
 have hb:Below w.heap.size w ((((w.alloc (.cells #[.pointer (some ⟨C.g,0,none⟩)] 122)).alloc (.cells #[.int .i64 xop,.int .i64 xa,.int .i64 xb,.int .i64 xn,.int .i64 xto,.string xt,.slice ae xe.length ce,.slice aa xargs.length ca,.int .i64 xbk,.int .i64 xlp,.int .i64 xat] 44)).alloc (.cells #[.int .i64 b1,.int .i64 b0,.int .i64 b2,.int .i64 b3] 92)).alloc (.cells #[.slice an l.length cn] 124)):=((((Below.refl _ _).alloc (Nat.le_refl _) _).alloc (by simp) _).alloc (by simp;omega) _).alloc (by simp;omega) _
 have p3:=bsome hb c3
 clear hb
 go_enter Tryz.func78,Tryz.ntmps78
 go_wp2_with fail
 obtain ⟨W,hW⟩: ∃ W,((((w.alloc (.cells #[.pointer (some ⟨C.g,0,none⟩)] 122)).alloc (.cells #[.int .i64 xop,.int .i64 xa,.int .i64 xb,.int .i64 xn,.int .i64 xto,.string xt,.slice ae xe.length ce,.slice aa xargs.length ca,.int .i64 xbk,.int .i64 s.bs.length,.int .i64 xat] 44)).alloc (.cells #[.int .i64 b1,.int .i64 b0,.int .i64 b2,.int .i64 b3] 92)).alloc (.cells #[.slice an l.length cn] 124))=W:=⟨_,rfl⟩
 have hb:Below w.heap.size w W:=by rw [←hW];exact ((((Below.refl _ _).alloc (Nat.le_refl _) _).alloc (by simp) _).alloc (by simp;omega) _).alloc (by simp;omega) _
 have hWs:W.heap.size=w.heap.size+4:=by rw [←hW];simp
 have q0:W.cell? ⟨w.heap.size,0,none⟩=some (.pointer (some ⟨C.g,0,none⟩)):=by rw [←hW];simp [go_sem]
 have q1:W.cell? ⟨w.heap.size+1+1,0,none⟩=some (.int .i64 b1):=by rw [←hW];simp [go_sem]
 have q2:W.cell? ⟨w.heap.size+1+1,1,none⟩=some (.int .i64 b0):=by rw [←hW];simp [go_sem]
 have q3:W.cell? ⟨w.heap.size+1+1,2,none⟩=some (.int .i64 b2):=by rw [←hW];simp [go_sem]
 have q4:W.cell? ⟨w.heap.size+1+1,3,none⟩=some (.int .i64 b3):=by rw [←hW];simp [go_sem]
 have q5:W.cell? ⟨w.heap.size+1+1+1,0,none⟩=some (.slice an l.length cn):=by rw [←hW];simp [go_sem]
 rw [hW]
 have HQ:Hid (∀ j,(j<w.heap.size∧ ¬ m.mut C.g j)∨(w.heap.size≤j∧j<W.heap.size)→j<W.heap.size∧ ¬ m.mut C.g j):=hide (fun j hj=>by
  rcases hj with hj|hj
  ·exact ⟨Nat.lt_of_lt_of_le hj.1 hb.size,hj.2⟩
  ·exact ⟨hj.2,HM.out.new hj.1⟩)
 have hup: ∀ j,(j<w.heap.size∧ ¬ m.mut C.g j∧ ¬ C.J j)→(j<W.heap.size∧ ¬ m.mut C.g j∧ ¬ C.J j):=fun j hj=>⟨Nat.lt_of_lt_of_le hj.1 hb.size,hj.2⟩
 have CP:=hide (mput_any (HM.out.below hb) ⟨xop,xa,xb,xn,xto,xt,xe,xargs,xbk,s.bs.length,xat⟩ HS1.out ae ce aa ca (HEE.out.up (Kx.of_below hb) hup) (HGG.out.up (Kx.of_below hb) hup))
 unfold IV at CP
 dsimp only at CP
 have HBW:=hide hb
 have HWs:=hide hWs
 clear hW p3 hb hWs hup HEE HGG
 refine CP.out.mono ?_
 rintro e w1 ⟨rfl,m1,hm1,hsp⟩
 have HST:Hid (∀ j,(j<w.heap.size∧ ¬ m.mut C.g j)∨(w.heap.size≤j∧j<W.heap.size)→j<w1.heap.size∧ ¬ m1.mut C.g j):=hide (fun j hj=>hsp.stay HQ.out hj)
 have n0: ¬ m.mut C.g w.heap.size:=HM.out.new (Nat.le_refl _)
 have n2: ¬ m.mut C.g (w.heap.size+1+1):=HM.out.new (by omega)
 have n3: ¬ m.mut C.g (w.heap.size+1+1+1):=HM.out.new (by omega)
 have q0:=hsp.cell q0 n0
 have q1:=hsp.cell q1 n2
 have q2:=hsp.cell q2 n2
 have q3:=hsp.cell q3 n2
 have q4:=hsp.cell q4 n2
 have q5:=hsp.cell q5 n3
 obtain ⟨W2,hW2⟩: ∃ W2,w1.alloc (.cells #[.int .i64 s.is.length] 3)=W2:=⟨_,rfl⟩
 have hb2:Below w1.heap.size w1 W2:=by rw [←hW2];exact (Below.refl _ _).alloc (Nat.le_refl _) _
 have t0:=bsome hb2 q0
 have t5:=bsome hb2 q5
 have t6:W2.cell? ⟨w1.heap.size,0,none⟩=some (.int .i64 s.is.length):=by rw [←hW2];simp [go_sem]
 have z0:=bsome hb2 q0
 have z1:=bsome hb2 q1
 have z2:=bsome hb2 q2
 have z3:=bsome hb2 q3
 have z4:=bsome hb2 q4
 have z5:=bsome hb2 q5
 have HM2:=hide (hm1.below hb2)
 have HMS2:Hid (MS C.g m w m1 W2):=hide ((MS.of_below HBW.out).trans (hsp.trans (MS.of_below hb2)))
 have HST2:Hid (∀ j,(j<w.heap.size∧ ¬ m.mut C.g j)∨(w.heap.size≤j∧j<W.heap.size)→j<W2.heap.size∧ ¬ m1.mut C.g j):=hide (fun j hj=>⟨Nat.lt_of_lt_of_le (HST.out j hj).1 hb2.size,(HST.out j hj).2⟩)
 have HNF:Hid (¬ m1.mut C.g w1.heap.size):=hide (hm1.new (Nat.le_refl _))
 have CW:=hide (within_any ab n HCC.out 113 #[.pointer (some ⟨w.heap.size,0,none⟩),.pointer (some ⟨w.heap.size+1+1+1,0,none⟩),.pointer (some ⟨w1.heap.size,0,none⟩)] (by intro w;rfl) (fun _=>False) (fun _=>True) HM2.out P (fun j hj=>HST2.out j (.inl (HPP.out j hj))) (HAA.out.keepX HMS2.out.kx (fun j hj=>(HPP.out j hj).2)) b1 b0 b2 b3 body a cap (HLL.out.keepX HMS2.out.kx (fun j hj=>(HPP.out j hj).2) (fun d c hr=>hr.keepX HMS2.out.kx (fun j hj=>(HPP.out j hj).2))) _ HS2.out (by
  intro m3 s3 w3 hm3 hs3 hlast
  obtain ⟨s4,hl1,hl2⟩:=Option.bind_eq_some_iff.1 hlast
  have hn: ∀ j,(j<w.heap.size∧ ¬ m.mut C.g j)∨(w.heap.size≤j∧j<W.heap.size)→ ¬ m3.mut C.g j:=fun j hj=>(hs3.stay HST2.out hj).2
  have hnf: ¬ m3.mut C.g w1.heap.size:=(hs3.stay (P:=fun j=>j=w1.heap.size) (fun j hj=>by rw [hj];exact ⟨World.block_lt_of_cell? _ _ t6,HNF.out⟩) rfl).2
  refine (loopC_any hm3 w.heap.size (w.heap.size+1+1+1) w1.heap.size s.is.length (hs3.cell t0 (HST2.out w.heap.size (.inr ⟨Nat.le_refl _,by rw [HWs.out];omega⟩)).2) (hs3.cell t6 HNF.out) (hn _ (.inr ⟨Nat.le_refl _,by rw [HWs.out];omega⟩)) hnf an cn l (hs3.cell t5 (HST2.out (w.heap.size+1+1+1) (.inr ⟨by omega,by rw [HWs.out];omega⟩)).2) ?_ (fun j hj=>hn j (.inl (HXX.out j hj))) hll hl1 hl2).mono ?_
  ·exact (HTT.out.keepX HMS2.out.kx (fun j hj=>(HXX.out j (by rw [←ob_own an l.length cn];exact hj)).2)).keepX hs3.kx (fun j hj=>(HST2.out j (.inl (HXX.out j (by rw [←ob_own an l.length cn];exact hj)))).2)
  ·rintro e w4 ⟨rfl,m4,hm4,hs4⟩
   exact ⟨rfl,trivial,m4,hm4,MSJ.of hs4⟩))
 have HT2:Hid (∀ m' w',MS C.g m1 W2 m' w'→w'.cell? ⟨w.heap.size,0,none⟩=some (.pointer (some ⟨C.g,0,none⟩))∧w'.cell? ⟨w1.heap.size,0,none⟩=some (.int .i64 s.is.length)):=hide (fun m' w' hms=>⟨hms.cell t0 (HST2.out w.heap.size (.inr ⟨Nat.le_refl _,by rw [HWs.out];omega⟩)).2,hms.cell t6 HNF.out⟩)
 clear hm1 hsp n0 n2 n3 HST HCC HPP HAA HLL HTT HXX HM HM2 HBW HWs HQ CP HST2 HNF hb2 t0 t5 t6
 go_wp2_with fail
 clear hW2 q0 q1 q2 q3 q4 q5 z0 z1 z2 z3 z4 z5
 refine CW.out.mono ?_
 rintro e w6 ⟨rfl,w4,m6,-,-,hm6,hs6⟩
 have hms6:=hs6.ms (fun j hj=>hj.elim)
 obtain ⟨u0,u1⟩:=HT2.out m6 w6 hms6
 have u4:=hm6.c4
 obtain ⟨hkl,gi,hai,⟨ot,uc⟩,uf,hm7,hs7⟩:=hm6.turn HS3.out
 rw [hai] at u4
 have HM7:=hide hm7
 have HS7:=hide (HMS2.out.trans (hms6.trans hs7))
 have hk0:(0:Int)≤(s.is.length:Int):=by omega
 have hk1:(s.is.length:Int)<(s2.is.length:Int):=by omega
 clear hm6 hs6 hms6 hm7 hs7 CW HT2 HMS2 HS1 HS2 HS3 hai
 go_wp2
 go_region
 refine bodyPost_end (v:= .tuple #[]) (results_none rfl _ _ _) rfl ⟨rfl,m6,?_,?_⟩
 ·exact HM7.out.below (below_drewN (Below.refl _ _) 1)
 ·exact HS7.out.trans (MS.of_below (below_drewN (Below.refl _ _) 1))
theorem Lw.either_some {st:Lw.St→Int→Sx.Tr→Option Lw.St} {s s':Lw.St} {blk at':Int} {h:Cd.In} {body els:List Sx.Tr} {nms:List ByteArray} (hs:Lw.either st s blk at' h body els nms=some s'):
  ∃ s1 s2 s5 s6,Lw.put s blk at' h=some s1∧Lw.within st s1 blk at' (3,0,0) body (fun s3 nb=>(Lw.over s3 nb at' nms).bind fun s4=>Lw.put s4 nb at' (Cd.jmp 0))=some s2∧Lw.setTo s2 s.is.length s2.is.length=some s5∧Lw.within st s5 blk at' (4,0,0) els (fun s3 _=>some s3)=some s6∧Lw.setTo s6 (s2.is.length - 1) s6.is.length=some s':=by
 obtain ⟨s1,h1,h2⟩:=Option.bind_eq_some_iff.1 hs
 obtain ⟨s2,h3,h4⟩:=Option.bind_eq_some_iff.1 h2
 obtain ⟨s5,h5,h6⟩:=Option.bind_eq_some_iff.1 h4
 obtain ⟨s6,h7,h8⟩:=Option.bind_eq_some_iff.1 h6
 exact ⟨s1,s2,s5,s6,h1,h3,h5,h7,h8⟩
set_option maxRecDepth 100000 in
set_option maxHeartbeats 4000000 in
theorem either_any (ab:List Lw.Ab) (n:Nat) (HC:LSmT ab n) {C:MC} {m:MA} {s s':Lw.St} {bk at':Int} {w:World} (h:MK C m s bk at' w) (P:Nat→Prop) (hP: ∀ j,P j→j<w.heap.size∧ ¬ m.mut C.g j) (hA:ABm w P C.uA ab) (x:Cd.In) (ae:Option Addr) (ce:Nat) (aa:Option Addr) (ca:Nat)
  (hE:ERn w (fun j=>j<w.heap.size∧ ¬ m.mut C.g j∧ ¬ C.J j) (.slice ae x.e.length ce) x.e) (hG:AGn w (fun j=>j<w.heap.size∧ ¬ m.mut C.g j∧ ¬ C.J j) (.slice aa x.args.length ca) x.args)
  (D ax:Int) (A B T:ByteArray) (N:Int) (aE:Option Addr) (nE cE:Nat) (body els:List Sx.Tr) (aB aL:Option Addr) (cB cL:Nat) (hL:Sl (RS w P n) w P body (.slice aB body.length cB)) (hO:Sl (RS w P n) w P els (.slice aL els.length cL)) (an:Option Addr) (cn:Nat) (l:List ByteArray) (ht:TxR w (.slice an l.length cn) l) (hX: ∀ j,ob an=some j→j<w.heap.size∧ ¬ m.mut C.g j) (hll:l.length≤1000000)
  (hs:Lw.either (Lw.stmt ab n) s bk at' x body els l=some s'):
  Calls Tryz.prog 77 #[.pointer (some ⟨C.g,0,none⟩),IV x ae ce aa ca,.agg #[.int .i64 D,.int .i64 ax,.string A,.string B,.string T,.int .i64 N,.slice aE nE cE,.slice aB body.length cB,.slice aL els.length cL],.slice an l.length cn] w fun e w'=>e= .returned (.tuple #[])∧ ∃ m',MK C m' s' bk at' w'∧MS C.g m w m' w':=by
 obtain ⟨s1,s2,s5,s6,hs1,hs2,hs3,hs4,hs5⟩:=Lw.either_some hs
 obtain ⟨xop,xa,xb,xn,xto,xt,xe,xargs,xbk,xlp,xat⟩:=x
 unfold IV
 dsimp only at *
 have hgl:=h.gl
 have HM:=hide h
 have HPP:=hide hP
 have HAA:=hide hA
 have HLL:=hide hL
 have HOO:=hide hO
 have HTT:=hide ht
 have HXX:=hide hX
 have HEE:=hide hE
 have HGG:=hide hG
 have HS1:=hide hs1
 have HS2:=hide hs2
 have HS3:=hide hs3
 have HS4:=hide hs4
 have HS5:=hide hs5
 have HCC:=hide HC
 clear hs hs1 hs2 hs3 hs4 hs5 h hP hA hL hO ht hX hE hG HC
 go_enter Tryz.func77,Tryz.ntmps77
 go_wp2_with fail
 obtain ⟨W,hW⟩: ∃ W,((((w.alloc (.cells #[.pointer (some ⟨C.g,0,none⟩)] 122)).alloc (.cells #[.int .i64 xop,.int .i64 xa,.int .i64 xb,.int .i64 xn,.int .i64 xto,.string xt,.slice ae xe.length ce,.slice aa xargs.length ca,.int .i64 xbk,.int .i64 xlp,.int .i64 xat] 44)).alloc (.cells #[.int .i64 D,.int .i64 ax,.string A,.string B,.string T,.int .i64 N,.slice aE nE cE,.slice aB body.length cB,.slice aL els.length cL] 75)).alloc (.cells #[.slice an l.length cn] 124))=W:=⟨_,rfl⟩
 have hb:Below w.heap.size w W:=by rw [←hW];exact ((((Below.refl _ _).alloc (Nat.le_refl _) _).alloc (by simp) _).alloc (by simp;omega) _).alloc (by simp;omega) _
 have hWs:W.heap.size=w.heap.size+4:=by rw [←hW];simp
 have q0:W.cell? ⟨w.heap.size,0,none⟩=some (.pointer (some ⟨C.g,0,none⟩)):=by rw [←hW];simp [go_sem]
 have q1:W.cell? ⟨w.heap.size+1+1,7,none⟩=some (.slice aB body.length cB):=by rw [←hW];simp [go_sem]
 have q2:W.cell? ⟨w.heap.size+1+1,8,none⟩=some (.slice aL els.length cL):=by rw [←hW];simp [go_sem]
 have q5:W.cell? ⟨w.heap.size+1+1+1,0,none⟩=some (.slice an l.length cn):=by rw [←hW];simp [go_sem]
 rw [hW]
 have HQ:Hid (∀ j,(j<w.heap.size∧ ¬ m.mut C.g j)∨(w.heap.size≤j∧j<W.heap.size)→j<W.heap.size∧ ¬ m.mut C.g j):=hide (fun j hj=>by
  rcases hj with hj|hj
  ·exact ⟨Nat.lt_of_lt_of_le hj.1 hb.size,hj.2⟩
  ·exact ⟨hj.2,HM.out.new hj.1⟩)
 have hup: ∀ j,(j<w.heap.size∧ ¬ m.mut C.g j∧ ¬ C.J j)→(j<W.heap.size∧ ¬ m.mut C.g j∧ ¬ C.J j):=fun j hj=>⟨Nat.lt_of_lt_of_le hj.1 hb.size,hj.2⟩
 have CP:=hide (mput_any (HM.out.below hb) ⟨xop,xa,xb,xn,xto,xt,xe,xargs,xbk,xlp,xat⟩ HS1.out ae ce aa ca (HEE.out.up (Kx.of_below hb) hup) (HGG.out.up (Kx.of_below hb) hup))
 unfold IV at CP
 dsimp only at CP
 have HBW:=hide hb
 have HWs:=hide hWs
 clear hW hb hWs hup HEE HGG
 refine CP.out.mono ?_
 rintro e w1 ⟨rfl,m1,hm1,hsp⟩
 have HST:Hid (∀ j,(j<w.heap.size∧ ¬ m.mut C.g j)∨(w.heap.size≤j∧j<W.heap.size)→j<w1.heap.size∧ ¬ m1.mut C.g j):=hide (fun j hj=>hsp.stay HQ.out hj)
 have n0: ¬ m.mut C.g w.heap.size:=HM.out.new (Nat.le_refl _)
 have n2: ¬ m.mut C.g (w.heap.size+1+1):=HM.out.new (by omega)
 have n3: ¬ m.mut C.g (w.heap.size+1+1+1):=HM.out.new (by omega)
 have q0:=hsp.cell q0 n0
 have q1:=hsp.cell q1 n2
 have q2:=hsp.cell q2 n2
 have q5:=hsp.cell q5 n3
 obtain ⟨W2,hW2⟩: ∃ W2,w1.alloc (.cells #[.int .i64 0] 3)=W2:=⟨_,rfl⟩
 have hb2:Below w1.heap.size w1 W2:=by rw [←hW2];exact (Below.refl _ _).alloc (Nat.le_refl _) _
 have hjl:w1.heap.size<W2.heap.size:=by rw [←hW2];simp
 have t0:=bsome hb2 q0
 have t1:=bsome hb2 q1
 have t2:=bsome hb2 q2
 have t5:=bsome hb2 q5
 have t6:W2.cell? ⟨w1.heap.size,0,none⟩=some (.int .i64 0):=by rw [←hW2];simp [go_sem]
 have t7:W2.frozen? ⟨w1.heap.size,0,none⟩=false:=by rw [←hW2];simp [go_sem]
 have HM2:Hid (MK ⟨C.g,fun j=>C.J j∨j=w1.heap.size,C.nm,C.ps,C.uA⟩ m1 s1 bk at' W2):=hide (hm1.aside hb2 (Nat.le_refl _) hjl)
 have HMS2:Hid (MS C.g m w m1 W2):=hide ((MS.of_below HBW.out).trans (hsp.trans (MS.of_below hb2)))
 have HST2:Hid (∀ j,(j<w.heap.size∧ ¬ m.mut C.g j)∨(w.heap.size≤j∧j<W.heap.size)→j<w1.heap.size∧j<W2.heap.size∧ ¬ m1.mut C.g j):=hide (fun j hj=>⟨(HST.out j hj).1,Nat.lt_of_lt_of_le (HST.out j hj).1 hb2.size,(HST.out j hj).2⟩)
 have HNF:Hid (¬ m1.mut C.g w1.heap.size):=hide (hm1.new (Nat.le_refl _))
 have CW:=hide (within_any ab n HCC.out 111 #[.pointer (some ⟨w.heap.size,0,none⟩),.pointer (some ⟨w.heap.size+1+1+1,0,none⟩),.pointer (some ⟨w1.heap.size,0,none⟩)] (by intro w;rfl) (fun j=>j=w1.heap.size) (fun w4=>w4.cell? ⟨w1.heap.size,0,none⟩=some (.int .i64 ((s2.is.length - 1:Nat):Int))) HM2.out P (fun j hj=>(HST2.out j (.inl (HPP.out j hj))).2) (HAA.out.keepX HMS2.out.kx (fun j hj=>(HPP.out j hj).2)) 3 0 0 0 body aB cB (HLL.out.keepX HMS2.out.kx (fun j hj=>(HPP.out j hj).2) (fun d c hr=>hr.keepX HMS2.out.kx (fun j hj=>(HPP.out j hj).2))) _ HS2.out (by
  intro m3 s3 w3 hm3 hs3 hlast
  obtain ⟨s4,hl1,hl2⟩:=Option.bind_eq_some_iff.1 hlast
  have hlen:s2.is.length - 1=s4.is.length:=by
   obtain ⟨-,rfl⟩:=Lw.put_some hl2
   simp
  have hn: ∀ j,(j<w.heap.size∧ ¬ m.mut C.g j)∨(w.heap.size≤j∧j<W.heap.size)→ ¬ m3.mut C.g j:=fun j hj=>(hs3.stay (fun j hj=>(HST2.out j hj).2) hj).2
  have hnf: ¬ m3.mut C.g w1.heap.size:=(hs3.stay (P:=fun j=>j=w1.heap.size) (fun j hj=>by rw [hj];exact ⟨hjl,HNF.out⟩) rfl).2
  refine (eithA_any hm3 w.heap.size (w.heap.size+1+1+1) w1.heap.size 0 (hs3.cell t0 (HST2.out w.heap.size (.inr ⟨Nat.le_refl _,by rw [HWs.out];omega⟩)).2.2) (hs3.cell t6 HNF.out) ((hs3.kx.frozen (p:=⟨w1.heap.size,0,none⟩) hjl HNF.out).trans t7) (hn _ (.inr ⟨Nat.le_refl _,by rw [HWs.out];omega⟩)) hnf (.inr rfl) an cn l (hs3.cell t5 (HST2.out (w.heap.size+1+1+1) (.inr ⟨by omega,by rw [HWs.out];omega⟩)).2.2) ?_ (fun j hj=>hn j (.inl (HXX.out j hj))) hll hl1 hl2).mono ?_
  ·exact (HTT.out.keepX HMS2.out.kx (fun j hj=>(HXX.out j (by rw [←ob_own an l.length cn];exact hj)).2)).keepX hs3.kx (fun j hj=>(HST2.out j (.inl (HXX.out j (by rw [←ob_own an l.length cn];exact hj)))).2.2)
  ·rintro e w4 ⟨rfl,hjc,m4,hm4,hk4,hu4⟩
   exact ⟨rfl,by rw [hlen];exact hjc,m4,hm4,⟨hk4,hu4⟩⟩))
 clear hm1 hsp n0 n2 n3 HST HTT HXX HM2 HBW CP hb2 t5 t6 t7 HS1 HS2
 go_wp2_with fail
 clear hW2 q0 q1 q2 q5
 refine CW.out.mono ?_
 rintro e w6 ⟨rfl,w4,m6,hjc4,hw6,hm6,hs6⟩
 have hg1:w1.heap.size ≠ C.g:=fun e=>HNF.out (.inl e)
 have hjc:w6.cell? ⟨w1.heap.size,0,none⟩=some (.int .i64 ((s2.is.length - 1:Nat):Int)):=by
  rw [hw6];exact (World.cell?_setCell_other _ _ _ _ (fun e=>by injection e with e1 e2;first|exact hg1 e1|exact hg1 e1.symm)).trans hjc4
 have hk6:=hs6.kx
 have HMS6:Hid (MS C.g m w m6 w6):=hide (((MSJ.of HMS2.out).trans hs6).ms (fun j hj=>by
  have h9:=(HST2.out w.heap.size (.inr ⟨Nat.le_refl _,by rw [HWs.out];omega⟩)).1
  have h8:j=w1.heap.size:=hj
  omega))
 have HN6:Hid (∀ j,(j<w.heap.size∧ ¬ m.mut C.g j)∨(w.heap.size≤j∧j<W.heap.size)→j<w6.heap.size∧ ¬ m6.mut C.g j):=hide (fun j hj=>by
  obtain ⟨z1,z2,z3⟩:=HST2.out j hj
  refine ⟨Nat.lt_of_lt_of_le z2 hk6.size,fun e=> ?_⟩
  rcases hs6.mu j e with z4|z4
  ·exact z3 z4
  ·omega)
 have HNJ:Hid (∀ j,j=w1.heap.size→j<w6.heap.size∧ ¬ m6.mut C.g j):=hide (fun j hj=>by
  rw [hj]
  refine ⟨World.block_lt_of_cell? _ _ hjc,fun e=> ?_⟩
  rcases hs6.mu _ e with z4|z4
  ·exact HNF.out z4
  ·omega)
 have u0:=hk6.cell t0 ⟨(HST2.out w.heap.size (.inr ⟨Nat.le_refl _,by rw [HWs.out];omega⟩)).2.2,fun e=>by have h9:=(HST2.out w.heap.size (.inr ⟨Nat.le_refl _,by rw [HWs.out];omega⟩)).1;have h8:w.heap.size=w1.heap.size:=e;omega⟩
 have u2:=hk6.cell t2 ⟨(HST2.out (w.heap.size+1+1) (.inr ⟨by omega,by rw [HWs.out];omega⟩)).2.2,fun e=>by have h9:=(HST2.out (w.heap.size+1+1) (.inr ⟨by omega,by rw [HWs.out];omega⟩)).1;have h8:w.heap.size+1+1=w1.heap.size:=e;omega⟩
 have u4:=hm6.c4
 obtain ⟨hkl,gi,hai,⟨ot,uc⟩,uf,hm7,hs7⟩:=hm6.turn HS3.out
 rw [hai] at u4
 have hk0:(0:Int)≤(s.is.length:Int):=by omega
 have hk1:(s.is.length:Int)<(s2.is.length:Int):=by omega
 have HM7:Hid (MK ⟨C.g,fun j=>C.J j∨j=w1.heap.size,C.nm,C.ps,C.uA⟩ m6 s5 bk at' (w6.setCell ⟨gi,s.is.length * 11+4,none⟩ (.int .i64 s2.is.length)).drew):=hide (hm7.below (below_drewN (Below.refl _ _) 1))
 have HS7:Hid (MS C.g m6 w6 m6 (w6.setCell ⟨gi,s.is.length * 11+4,none⟩ (.int .i64 s2.is.length)).drew):=hide (hs7.trans (MS.of_below (below_drewN (Below.refl _ _) 1)))
 have hms7:=HS7.out
 have v0:=hms7.cell u0 (HN6.out w.heap.size (.inr ⟨Nat.le_refl _,by rw [HWs.out];omega⟩)).2
 have v2:=hms7.cell u2 (HN6.out (w.heap.size+1+1) (.inr ⟨by omega,by rw [HWs.out];omega⟩)).2
 have v6:=hms7.cell hjc (HNJ.out _ rfl).2
 clear hms7 hm7 hs7 hm6 hs6 hk6 hjc4 hw6 CW t0 t1 t2 HS3 hai HNF HMS2 HST2
 go_wp2
 go_region
 generalize hV:(w6.setCell ⟨gi,s.is.length * 11+4,none⟩ (.int .i64 s2.is.length)).drew=V at *
 have HN7:Hid (∀ j,(j<w.heap.size∧ ¬ m.mut C.g j)∨(w.heap.size≤j∧j<W.heap.size)→j<V.heap.size∧ ¬ m6.mut C.g j):=hide (fun j hj=>HS7.out.stay HN6.out hj)
 have HNJ7:Hid (∀ j,j=w1.heap.size→j<V.heap.size∧ ¬ m6.mut C.g j):=hide (fun j hj=>HS7.out.stay HNJ.out hj)
 have HMS7:Hid (MS C.g m w m6 V):=hide (HMS6.out.trans HS7.out)
 have CV:=hide (within_any ab n HCC.out 112 #[] (by intro w;rfl) (fun _=>False) (fun _=>True) HM7.out P (fun j hj=>HN7.out j (.inl (HPP.out j hj))) (HAA.out.keepX HMS7.out.kx (fun j hj=>(HPP.out j hj).2)) 4 0 0 0 els aL cL (HOO.out.keepX HMS7.out.kx (fun j hj=>(HPP.out j hj).2) (fun d c hr=>hr.keepX HMS7.out.kx (fun j hj=>(HPP.out j hj).2))) _ HS4.out (by
  intro m3 s3 w3 hm3 hs3 hlast
  obtain rfl:=Option.some.inj hlast
  refine (eithB_any w3).mono ?_
  rintro e w4 ⟨rfl,rfl⟩
  exact ⟨rfl,trivial,m3,hm3,MSJ.of (MS.refl _ _ _)⟩))
 clear hV u0 u2 u4 uc uf HS7 HN6 HNJ HMS6 hjc HM7 HS4 hk0 hk1
 go_wp2_with fail
 refine CV.out.mono ?_
 rintro e w8 ⟨rfl,w9,m8,-,-,hm8,hs8⟩
 have hms8:=hs8.ms (fun j hj=>hj.elim)
 have x0:=hms8.cell v0 (HN7.out w.heap.size (.inr ⟨Nat.le_refl _,by rw [HWs.out];omega⟩)).2
 have x6:=hms8.cell v6 (HNJ7.out _ rfl).2
 have x4:=hm8.c4
 obtain ⟨hkl2,g2,hai2,⟨ot2,yc⟩,yf,hm9,hs9⟩:=hm8.turn HS5.out
 rw [hai2] at x4
 have hk0:(0:Int)≤((s2.is.length - 1:Nat):Int):=by omega
 have hk1:((s2.is.length - 1:Nat):Int)<(s6.is.length:Int):=by omega
 have HM9:=hide hm9
 have HS9:=hide (HMS7.out.trans (hms8.trans hs9))
 generalize s2.is.length - 1=K at *
 clear hm8 hs8 hms8 hm9 hs9 hai2 CV HMS7 HN7 HNJ7 v0 v2 v6 HS5
 go_wp2
 go_region
 refine bodyPost_end (v:= .tuple #[]) (results_none rfl _ _ _) rfl ⟨rfl,m8,?_,?_⟩
 ·exact (HM9.out.below (below_drewN (Below.refl _ _) 1)).back (fun j hj=> .inl hj)
 ·exact HS9.out.trans (MS.of_below (below_drewN (Below.refl _ _) 1))
end Go.Proofs.YtcdcoiobpbdmpaaGreatDoor
