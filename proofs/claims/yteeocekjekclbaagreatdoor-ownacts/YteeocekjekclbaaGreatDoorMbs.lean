import Derived.Test.YteeocekjekclbaaGreatDoorMbr
namespace Go.Proofs.YteeocekjekclbaaGreatDoor
open Go.RowKit
def Cd.hnd (l:List (List (Int × Int) × Int)):List (Int × Int):=(l.filter fun y=>y.1.isEmpty).map (fun y=>(2,y.2))
theorem Cd.hnd_app (l m:List (List (Int × Int) × Int)):Cd.hnd (l++m)=Cd.hnd l++Cd.hnd m:=by simp [Cd.hnd]
theorem Cd.hnd_len (l:List (List (Int × Int) × Int)):(Cd.hnd l).length≤l.length:=by
 unfold Cd.hnd;rw [List.length_map];exact List.length_filter_le _ _
set_option maxRecDepth 100000 in
set_option maxHeartbeats 2000000 in
theorem handed_any (v:Value) (L:List (List (Int × Int) × Int)) (w:World) (hv:AgR w v L) (hl:L.length≤100000):
  Calls Tryz.prog 24 #[v] w fun e w'=> ∃ v',e= .returned v'∧w'.ownsRow w.heap.size 57 2 v' (Cd.hnd L).length (fcells (Cd.hnd L))∧Below w.heap.size w w':=by
 obtain ⟨i0,hi0,hz0,hz1,hz2⟩:=info_parts Tryz.infoA
 have HV:=hide hv
 obtain ⟨a,c,rfl,-⟩:=hv
 go_enter Tryz.func24,Tryz.ntmps24
 go_wp2
 go_loopw [3,8] (fun v iv wr=> ∃ i:Nat,i≤L.length∧iv= .int .i64 i∧Hid (wr.ownsRow w.heap.size 57 2 v (Cd.hnd (L.take i)).length (fcells (Cd.hnd (L.take i))))∧Hid (Below w.heap.size w wr)) (fun _ iv _=>L.length - (intOf iv).toNat)
 case atStart=>exact ⟨0,Nat.zero_le _,rfl,hide (World.ownsRow_nil _ _ _ _),hide (Below.refl _ _)⟩
 case round=>
  obtain ⟨i,hi,rfl,HO,HBW⟩:=hrel
  have hsW:=HBW.out.size
  by_cases hlt:i<L.length
  ·have d1:decide ((i:Int)<(L.length:Int))=true:=by simp;omega
   obtain ⟨x,hx⟩: ∃ x,L[i]? =some x:=⟨_,List.getElem?_eq_getElem hlt⟩
   obtain ⟨a2,c2,e2,h2⟩:=HV.out.keep HBW.out
   obtain ⟨rfl,-,rfl⟩:a=a2∧True∧c=c2:=by simpa using e2
   obtain ⟨g,o,rfl,hc⟩:=h2 (List.ne_nil_of_mem (List.mem_of_getElem? hx))
   obtain ⟨⟨ae,ce,x0,-⟩,x1⟩:=hc i x hx
   have HT:Hid (L.take (i+1)=L.take i++[x]):=hide (by rw [List.take_add_one,hx];rfl)
   obtain ⟨xe,xv⟩:=x
   simp only at x0 x1
   have hb5:Below wr.heap.size wr (wr.alloc (.cells #[.slice ae xe.length ce,.int .i64 xv] 55)):=(Below.refl _ _).alloc (Nat.le_refl _) _
   have HB5:=hide hb5
   obtain ⟨va,vc,rfl⟩:=own_sliceA HO.out
   have hfl:(Cd.hnd (L.take i)).length≤100000:=Nat.le_trans (Cd.hnd_len _) (by rw [List.length_take];omega)
   have HFl:Hid (Cd.hnd (L.take (i+1))=Cd.hnd (L.take i)++(if xe.isEmpty then [(2,xv)] else [])):=hide (by
    rw [HT.out,Cd.hnd_app]
    cases hq:xe.isEmpty<;> simp [Cd.hnd,hq])
   generalize Cd.hnd (L.take i)=K at *
   clear hx hc h2 e2 hb5 HT
   have i0':(0:Int)≤(i:Int):=by omega
   have i1':(i:Int)<(L.length:Int):=by omega
   have CD:=hide (mkDrop_any xv (wr.alloc (.cells #[.slice ae xe.length ce,.int .i64 xv] 55)))
   cases xe with
   |nil=>
    simp only [List.length_nil,List.isEmpty_nil,if_true] at *
    go_wp2_with fail
    refine CD.out.mono ?_
    rintro e w5 ⟨rfl,hb6⟩
    have hb7:=btrans HB5.out hb6
    have hs7:=hb7.size
    have HO7:=hide (own_keepA HO.out (fun g hg=>hb7.block g (HO.out.lt g hg).2))
    have HB7:=hide (HBW.out.trans (hb7.mono hsW))
    clear CD hb6 hb7 HO HBW HB5 x0 x1
    go_wp2_with (at_builtin;refine wpList_append_lies _ rfl _ _ 30 rfl w.heap.size 57 i0 (.agg #[.int .i64 0,.int .i64 0]) 2 16 Tryz.underlying30 hi0 hz0 hz1 hz2 rfl (by decide) _ _ _ rfl (HO7.out.alloc _) ⟨w5.heap.size,0,none⟩ 1 1 [.int .i64 2,.int .i64 xv] rfl rfl ?c1 ?c2 ?c3 ?c4 ?c5 ?c6 _ rfl ?_)
    case c1=>exact two_new _ _ _ _
    case c2=>intro u hu;simp at hu;rcases hu with rfl|rfl<;> rfl
    case c3=>decide
    case c4=>unfold maxLen;omega
    case c5=>omega
    case c6=>simp;omega
    intro gn cap w8 hown hgrow hat hlt8
    have HB8:Hid (Below w.heap.size w w8):=hide ((HB7.out.alloc (by omega) _).grown hgrow (by simp;omega) (fun j hj=>by have:=(HO7.out.lt j hj).1;omega))
    have HO8:Hid (w8.ownsRow w.heap.size 57 2 (.slice (some ⟨gn,0,none⟩) (K.length+1) cap) (Cd.hnd (L.take (i+1))).length (fcells (Cd.hnd (L.take (i+1))))):=hide (by rw [HFl.out,fcells_app,List.length_append];exact hown)
    clear hown hgrow hat HO7 HB7
    go_wp2
    go_roundw
    case rel=>exact ⟨i+1,by omega,by go_num,HO8,HB8⟩
    case measure=>simp [intOf];omega
   |cons y ys=>
    have d2:(((ys.length+1:Nat):Int) == 0)=false:=by simp;omega
    have d3:decide (((ys.length+1:Nat):Int)=0)=false:=by simp;omega
    simp only [List.length_cons,List.isEmpty_cons] at *
    rw [if_neg (by simp),List.append_nil] at HFl
    have HO8:Hid ((wr.alloc (.cells #[.slice ae (ys.length+1) ce,.int .i64 xv] 55)).ownsRow w.heap.size 57 2 (.slice va K.length vc) (Cd.hnd (L.take (i+1))).length (fcells (Cd.hnd (L.take (i+1))))):=hide (by rw [HFl.out];exact HO.out.alloc _)
    have HB8:Hid (Below w.heap.size w (wr.alloc (.cells #[.slice ae (ys.length+1) ce,.int .i64 xv] 55))):=hide (HBW.out.alloc hsW _)
    clear HO HBW CD HB5
    go_wp2
    go_roundw
    case rel=>exact ⟨i+1,by omega,by go_num,HO8,HB8⟩
    case measure=>simp [intOf];omega
  ·obtain rfl:i=L.length:=by omega
   have d1:decide ((L.length:Int)<(L.length:Int))=false:=by simp
   rw [List.take_length] at HO
   go_wp2
   go_ret
   exact ⟨_,rfl,HO.out,HBW.out⟩
set_option maxRecDepth 100000 in
set_option maxHeartbeats 2000000 in
theorem deeds10_any (q:PV) (p:Cd.Pr) (x:Cd.In) (ae:Option Addr) (ce:Nat) (aa:Option Addr) (ca:Nat) (w:World) (h:PC q p w) (hx:x.op=10) (ha:AgR w (.slice aa x.args.length ca) x.args) (hl:x.args.length≤100000):
  Calls Tryz.prog 12 #[q.v p,IV x ae ce aa ca] w fun e w'=> ∃ v',e= .returned v'∧w'.ownsRow w.heap.size 57 2 v' (Cd.deeds p x).length (fcells (Cd.deeds p x))∧Below w.heap.size w w':=by
 obtain ⟨xop,xa,xb,xn,xto,xt,xe,xargs,xbk,xlp,xat⟩:=x
 dsimp only at hx ha hl
 subst hx
 have HD:Hid (Cd.deeds p ⟨10,xa,xb,xn,xto,xt,xe,xargs,xbk,xlp,xat⟩=(Cd.hnd xargs).filter fun y=>Cd.isEnd p y.2):=hide rfl
 rw [HD.out]
 have HP:=hide h
 have HB0:Hid (Below w.heap.size w ((w.alloc (.cells #[.string p.name,.slice q.av p.vars.length q.cv,.int .i64 p.params,.slice q.ab p.blocks.length q.cb,.slice q.ai p.ins.length q.ci] 26)).alloc (.cells #[.int .i64 10,.int .i64 xa,.int .i64 xb,.int .i64 xn,.int .i64 xto,.string xt,.slice ae xe.length ce,.slice aa xargs.length ca,.int .i64 xbk,.int .i64 xlp,.int .i64 xat] 53))):=hide (((Below.refl _ _).alloc (Nat.le_refl _) _).alloc (by simp) _)
 have HHN:Hid (∀ (w':World),Below w.heap.size w w'→Calls Tryz.prog 24 #[.slice aa xargs.length ca] w' fun e w''=> ∃ v',e= .returned v'∧w''.ownsRow w'.heap.size 57 2 v' (Cd.hnd xargs).length (fcells (Cd.hnd xargs))∧Below w'.heap.size w' w''):=hide (fun w' hb=>handed_any _ xargs w' (ha.keep hb) hl)
 have HOE:Hid (∀ (w':World) (v:Value),Below w.heap.size w w'→ER w' v (Cd.hnd xargs)→Calls Tryz.prog 20 #[q.v p,v] w' fun e w''=> ∃ v',e= .returned v'∧w''.ownsRow w'.heap.size 57 2 v' ((Cd.hnd xargs).filter fun y=>Cd.isEnd p y.2).length (fcells ((Cd.hnd xargs).filter fun y=>Cd.isEnd p y.2))∧Below w'.heap.size w' w''):=hide (fun w' v hb he=>onEnds_any q p v _ w' (HP.out.keep hb) he (Nat.le_trans (Cd.hnd_len _) hl))
 unfold PV.v IV at *
 unfold PV.cells at *
 dsimp only at *
 clear h HD HP ha
 go_enter Tryz.func12,Tryz.ntmps12
 go_wp2
 obtain ⟨W,hW⟩: ∃ W,((w.alloc (.cells #[.string p.name,.slice q.av p.vars.length q.cv,.int .i64 p.params,.slice q.ab p.blocks.length q.cb,.slice q.ai p.ins.length q.ci] 26)).alloc (.cells #[.int .i64 10,.int .i64 xa,.int .i64 xb,.int .i64 xn,.int .i64 xto,.string xt,.slice ae xe.length ce,.slice aa xargs.length ca,.int .i64 xbk,.int .i64 xlp,.int .i64 xat] 53))=W:=⟨_,rfl⟩
 have HJ:Hid (∀ w',Below W.heap.size W w'→w'.cell? ⟨w.heap.size,0,none⟩=some (.string p.name)∧w'.cell? ⟨w.heap.size,1,none⟩=some (.slice q.av p.vars.length q.cv)∧w'.cell? ⟨w.heap.size,2,none⟩=some (.int .i64 p.params)∧w'.cell? ⟨w.heap.size,3,none⟩=some (.slice q.ab p.blocks.length q.cb)∧w'.cell? ⟨w.heap.size,4,none⟩=some (.slice q.ai p.ins.length q.ci)∧w'.cell? ⟨w.heap.size+1,7,none⟩=some (.slice aa xargs.length ca)):=hide (fun w' hb=>⟨bsome hb (by rw [←hW];simp [go_sem]),bsome hb (by rw [←hW];simp [go_sem]),bsome hb (by rw [←hW];simp [go_sem]),bsome hb (by rw [←hW];simp [go_sem]),bsome hb (by rw [←hW];simp [go_sem]),bsome hb (by rw [←hW];simp [go_sem])⟩)
 rw [hW] at HB0 ⊢
 clear hW
 have kc:Hid (Below W.heap.size W W.drew):=hide (below_drewN (Below.refl _ _) 1)
 obtain ⟨a0,a1,a2,a3,a4,a5⟩:=HJ.out W (Below.refl _ _)
 go_region_held3 (fun w'=>w'.cell? ⟨w.heap.size,0,none⟩=some (.string p.name)∧w'.cell? ⟨w.heap.size,1,none⟩=some (.slice q.av p.vars.length q.cv)∧w'.cell? ⟨w.heap.size,2,none⟩=some (.int .i64 p.params)∧w'.cell? ⟨w.heap.size,3,none⟩=some (.slice q.ab p.blocks.length q.cb)∧w'.cell? ⟨w.heap.size,4,none⟩=some (.slice q.ai p.ins.length q.ci)∧w'.cell? ⟨w.heap.size+1,7,none⟩=some (.slice aa xargs.length ca)) ((first|exact ⟨by assumption,by assumption,by assumption,by assumption,by assumption,by assumption⟩|go_keep)) ((first
   |(go_at_call 24;refine (HHN.out _ (by exact btrans HB0.out kc.out)).mono ?_;rintro e w7 ⟨v7,rfl,ho7,hb7⟩;have HO7:=hide ho7;have HB7:=hide (btrans kc.out hb7);have HS7:=hide (own_er ho7);clear ho7 hb7;obtain ⟨j0,j1,j2,j3,j4,j5⟩:=HJ.out _ HB7.out)
   |(go_at_call 20;refine (HOE.out _ _ (by exact btrans HB0.out HB7.out) (by exact HS7.out)).mono ?_;rintro e w9 ⟨v9,rfl,ho9,hb9⟩;have HO9:=hide ho9;have HB9:=hide (btrans HB7.out hb9);clear ho9 hb9;obtain ⟨j0,j1,j2,j3,j4,j5⟩:=HJ.out _ HB9.out)))
 all_goals
  go_wp2
  go_ret
  exact ⟨_,rfl,own_low HO9.out (by have:=HB7.out.size;have:=HB0.out.size;omega),btrans HB0.out HB9.out⟩
set_option maxRecDepth 100000 in
set_option maxHeartbeats 2000000 in
theorem deedsN_any (q:PV) (p:Cd.Pr) (x:Cd.In) (ae:Option Addr) (ce:Nat) (aa:Option Addr) (ca:Nat) (w:World) (h3:x.op ≠ 3) (h4:x.op ≠ 4) (h11:x.op ≠ 11) (h5:x.op ≠ 5) (h6:x.op ≠ 6) (h7:x.op ≠ 7) (h8:x.op ≠ 8) (h9:x.op ≠ 9) (h10:x.op ≠ 10) (h16:x.op ≠ 16):
  Calls Tryz.prog 12 #[q.v p,IV x ae ce aa ca] w fun e w'=> ∃ v',e= .returned v'∧w'.ownsRow w.heap.size 57 2 v' (Cd.deeds p x).length (fcells (Cd.deeds p x))∧Below w.heap.size w w':=by
 have HD:Cd.deeds p x=[]:=by simp [Cd.deeds,Cd.acts0,h3,h4,h11,h5,h6,h7,h8,h9,h10,h16]
 rw [HD]
 clear HD
 obtain ⟨xop,xa,xb,xn,xto,xt,xe,xargs,xbk,xlp,xat⟩:=x
 dsimp only at *
 have d3:decide (xop=3)=false:=by simpa using h3
 have b3:(xop == 3)=false:=by simpa using h3
 have d4:decide (xop=4)=false:=by simpa using h4
 have b4:(xop == 4)=false:=by simpa using h4
 have d11:decide (xop=11)=false:=by simpa using h11
 have b11:(xop == 11)=false:=by simpa using h11
 have d5:decide (xop=5)=false:=by simpa using h5
 have b5:(xop == 5)=false:=by simpa using h5
 have d6:decide (xop=6)=false:=by simpa using h6
 have b6:(xop == 6)=false:=by simpa using h6
 have d7:decide (xop=7)=false:=by simpa using h7
 have b7:(xop == 7)=false:=by simpa using h7
 have d8:decide (xop=8)=false:=by simpa using h8
 have b8:(xop == 8)=false:=by simpa using h8
 have d9:decide (xop=9)=false:=by simpa using h9
 have b9:(xop == 9)=false:=by simpa using h9
 have d10:decide (xop=10)=false:=by simpa using h10
 have b10:(xop == 10)=false:=by simpa using h10
 have d16:decide (xop=16)=false:=by simpa using h16
 have b16:(xop == 16)=false:=by simpa using h16
 clear h3 h4 h11 h5 h6 h7 h8 h9 h10 h16
 unfold PV.v IV
 unfold PV.cells
 dsimp only
 go_enter Tryz.func12,Tryz.ntmps12
 go_wp2
 go_ret
 exact ⟨_,rfl,World.ownsRow_nil _ _ _ _,((Below.refl _ _).alloc (Nat.le_refl _) _).alloc (by simp) _⟩
theorem deeds_any (q:PV) (p:Cd.Pr) (x:Cd.In) (ae:Option Addr) (ce:Nat) (aa:Option Addr) (ca:Nat) (w:World) (h:PC q p w) (ha:AgR w (.slice aa x.args.length ca) x.args) (hl:x.args.length≤100000):
  Calls Tryz.prog 12 #[q.v p,IV x ae ce aa ca] w fun e w'=> ∃ v',e= .returned v'∧w'.ownsRow w.heap.size 57 2 v' (Cd.deeds p x).length (fcells (Cd.deeds p x))∧Below w.heap.size w w':=by
 by_cases h3:x.op=3
 ·exact deeds3_any q p x ae ce aa ca w h h3
 by_cases h4:x.op=4
 ·exact deeds4_any q p x ae ce aa ca w h h4
 by_cases h11:x.op=11
 ·exact deeds11_any q p x ae ce aa ca w h h11
 by_cases h5:x.op=5
 ·exact deeds5_any q p x ae ce aa ca w h h5
 by_cases h6:x.op=6
 ·exact deeds6_any q p x ae ce aa ca w h h6
 by_cases h7:x.op=7
 ·exact deeds7_any q p x ae ce aa ca w h h7
 by_cases h8:x.op=8
 ·exact deeds8_any q p x ae ce aa ca w h h8
 by_cases h9:x.op=9
 ·exact deeds9_any q p x ae ce aa ca w h h9
 by_cases h10:x.op=10
 ·exact deeds10_any q p x ae ce aa ca w h h10 ha hl
 by_cases h16:x.op=16
 ·exact deeds16_any q p x ae ce aa ca w h h16
 exact deedsN_any q p x ae ce aa ca w h3 h4 h11 h5 h6 h7 h8 h9 h10 h16
set_option maxRecDepth 100000 in
set_option maxHeartbeats 4000000 in
theorem oActs_any (q:PV) (p:Cd.Pr) (i:Int) (w:World) (h:PC q p w) (hl: ∀ x ∈ p.ins,x.args.length≤100000):
  Calls Tryz.prog 7 #[q.v p,.int .i64 i] w fun e w'=> ∃ v',e= .returned v'∧w'.ownsRow w.heap.size 57 2 v' (Cd.acts p i).length (fcells (Cd.acts p i))∧Below w.heap.size w w':=by
 by_cases hi:0≤i∧i<(p.ins.length:Int)
 ·obtain ⟨k,rfl⟩: ∃ k:Nat,i=k:=⟨i.toNat,by omega⟩
  obtain ⟨x,hx⟩: ∃ x,p.ins[k]? =some x:=⟨_,List.getElem?_eq_getElem (by omega)⟩
  have HA:Cd.acts p (k:Int)=Cd.deeds p x:=by unfold Cd.acts;rw [if_pos hi,Int.toNat_natCast,hx];rfl
  rw [HA]
  clear HA
  have hx1:=List.mem_of_getElem? hx
  obtain ⟨ai,ci,e1,h1⟩:=h.ins
  obtain ⟨e2,e3⟩:q.ai=ai∧q.ci=ci:=by simpa using e1
  obtain ⟨g,o,e4,h2⟩:=h1 (List.ne_nil_of_mem hx1)
  obtain ⟨ae,ce,aa,ca,h3⟩:=h2 k x hx
  have HDe:Hid (∀ w',Below w.heap.size w w'→Calls Tryz.prog 12 #[q.v p,IV x ae ce aa ca] w' fun e w''=> ∃ v',e= .returned v'∧w''.ownsRow w'.heap.size 57 2 v' (Cd.deeds p x).length (fcells (Cd.deeds p x))∧Below w'.heap.size w' w''):=hide (fun w' hb=>deeds_any q p x ae ce aa ca w' (h.keep hb) (h3.args.keep hb) (hl x hx1))
  rw [←e2] at e4
  have HE4:=hide e4
  have HI:Hid (∀ w',Below w.heap.size w w'→IC w' g (o+k * 11) x ae ce aa ca):=hide (fun w' hb=>h3.keep hb)
  have i1:(0:Int)≤(k:Int):=hi.1
  have i2:(k:Int)<(p.ins.length:Int):=hi.2
  have d1:decide ((k:Int)<0)=false:=by simp
  have d2:decide ((p.ins.length:Int)≤(k:Int))=false:=by simp;omega
  clear h h1 h2 h3 hl hx hx1 e1 e2 e3 e4 hi
  unfold PV.v IV at *
  unfold PV.cells at *
  obtain ⟨qav,qcv,qab,qcb,qai,qci⟩:=q
  dsimp only at *
  obtain rfl:=HE4.out
  clear HE4
  go_enter Tryz.func7,Tryz.ntmps7
  go_wp2
  have HB0:Hid (Below w.heap.size w (w.alloc (.cells #[.string p.name,.slice qav p.vars.length qcv,.int .i64 p.params,.slice qab p.blocks.length qcb,.slice (some ⟨g,o,none⟩) p.ins.length qci] 26))):=hide ((Below.refl _ _).alloc (Nat.le_refl _) _)
  obtain ⟨W,hW⟩: ∃ W,w.alloc (.cells #[.string p.name,.slice qav p.vars.length qcv,.int .i64 p.params,.slice qab p.blocks.length qcb,.slice (some ⟨g,o,none⟩) p.ins.length qci] 26)=W:=⟨_,rfl⟩
  have HJ:Hid (∀ w',Below W.heap.size W w'→w'.cell? ⟨w.heap.size,0,none⟩=some (.string p.name)∧w'.cell? ⟨w.heap.size,1,none⟩=some (.slice qav p.vars.length qcv)∧w'.cell? ⟨w.heap.size,2,none⟩=some (.int .i64 p.params)∧w'.cell? ⟨w.heap.size,3,none⟩=some (.slice qab p.blocks.length qcb)∧w'.cell? ⟨w.heap.size,4,none⟩=some (.slice (some ⟨g,o,none⟩) p.ins.length qci)):=hide (fun w' hb=>⟨bsome hb (by rw [←hW];simp [go_sem]),bsome hb (by rw [←hW];simp [go_sem]),bsome hb (by rw [←hW];simp [go_sem]),bsome hb (by rw [←hW];simp [go_sem]),bsome hb (by rw [←hW];simp [go_sem])⟩)
  rw [hW] at HB0 ⊢
  clear hW
  have kc:Hid (Below W.heap.size W W.drew):=hide (below_drewN (Below.refl _ _) 1)
  obtain ⟨a0,a1,a2,a3,a4⟩:=HJ.out W (Below.refl _ _)
  obtain ⟨c0,c1,c2,c3,c4,c5,c6,c7,c8,c9,c10,-,-⟩:=HI.out W HB0.out
  go_region_held3 (fun w'=>(w'.cell? ⟨w.heap.size,0,none⟩=some (.string p.name)∧w'.cell? ⟨w.heap.size,1,none⟩=some (.slice qav p.vars.length qcv)∧w'.cell? ⟨w.heap.size,2,none⟩=some (.int .i64 p.params)∧w'.cell? ⟨w.heap.size,3,none⟩=some (.slice qab p.blocks.length qcb)∧w'.cell? ⟨w.heap.size,4,none⟩=some (.slice (some ⟨g,o,none⟩) p.ins.length qci))∧w'.cell? ⟨g,o+k * 11,none⟩=some (.int .i64 x.op)∧w'.cell? ⟨g,o+k * 11+1,none⟩=some (.int .i64 x.a)∧w'.cell? ⟨g,o+k * 11+2,none⟩=some (.int .i64 x.b)∧w'.cell? ⟨g,o+k * 11+3,none⟩=some (.int .i64 x.n)∧w'.cell? ⟨g,o+k * 11+4,none⟩=some (.int .i64 x.to)∧w'.cell? ⟨g,o+k * 11+5,none⟩=some (.string x.t)∧w'.cell? ⟨g,o+k * 11+6,none⟩=some (.slice ae x.e.length ce)∧w'.cell? ⟨g,o+k * 11+7,none⟩=some (.slice aa x.args.length ca)∧w'.cell? ⟨g,o+k * 11+8,none⟩=some (.int .i64 x.bk)∧w'.cell? ⟨g,o+k * 11+9,none⟩=some (.int .i64 x.lp)∧w'.cell? ⟨g,o+k * 11+10,none⟩=some (.int .i64 x.at')) ((first|exact ⟨⟨by assumption,by assumption,by assumption,by assumption,by assumption⟩,by assumption,by assumption,by assumption,by assumption,by assumption,by assumption,by assumption,by assumption,by assumption,by assumption,by assumption⟩|go_keep)) ((first
    |(go_at_call 12;refine (HDe.out _ (by exact btrans HB0.out kc.out)).mono ?_;rintro e w9 ⟨v9,rfl,ho9,hb9⟩;have HO9:=hide ho9;have HB9:=hide (btrans kc.out hb9);clear ho9 hb9;obtain ⟨j0,j1,j2,j3,j4⟩:=HJ.out _ HB9.out;obtain ⟨l0,l1,l2,l3,l4,l5,l6,l7,l8,l9,l10,-,-⟩:=HI.out _ (btrans HB0.out HB9.out))))
  all_goals
   go_wp2
   go_ret
   exact ⟨_,rfl,own_low HO9.out (by have:=kc.out.size;have:=HB0.out.size;omega),btrans HB0.out HB9.out⟩
 ·have HA:Cd.acts p i=[]:=by unfold Cd.acts;rw [if_neg hi]
  rw [HA]
  clear HA h hl
  unfold PV.v
  unfold PV.cells
  by_cases hj:i<0
  ·have d1:decide (i<0)=true:=by simpa using hj
   go_enter Tryz.func7,Tryz.ntmps7
   go_wp2
   go_ret
   exact ⟨_,rfl,World.ownsRow_nil _ _ _ _,(Below.refl _ _).alloc (Nat.le_refl _) _⟩
  ·have d1:decide (i<0)=false:=by simpa using hj
   have d2:decide ((p.ins.length:Int)≤i)=true:=by simp;omega
   go_enter Tryz.func7,Tryz.ntmps7
   go_wp2
   go_ret
   exact ⟨_,rfl,World.ownsRow_nil _ _ _ _,(Below.refl _ _).alloc (Nat.le_refl _) _⟩
end Go.Proofs.YteeocekjekclbaaGreatDoor
