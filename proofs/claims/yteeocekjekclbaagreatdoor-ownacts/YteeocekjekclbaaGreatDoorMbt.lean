import Derived.Test.YteeocekjekclbaaGreatDoorMbn
import Derived.Test.YteeocekjekclbaaGreatDoorMbp
import Derived.Test.YteeocekjekclbaaGreatDoorMbo
import Derived.Test.YteeocekjekclbaaGreatDoorMbs
import Derived.Test.YteeocekjekclbaaGreatDoorMal
namespace Go.Proofs.YteeocekjekclbaaGreatDoor
open Go.RowKit
theorem Tryz.infoN3:(Tryz.prog.info? 3).map (fun i=>(i.zero,i.size,i.bytes))=some (some (.int .i64 0),1,8):=by kernel_rfl
structure NR (xb:Nat) (w:World) (l:List Int):Prop where
 own: ∃ a c,w.cell? ⟨xb,0,none⟩=some (.slice a l.length c)∧w.ownsRow (xb+1) 3 1 (.slice a l.length c) l.length (l.map (.int .i64))
 fz:w.frozen? ⟨xb,0,none⟩=false
theorem NR.below {xb:Nat} {w w':World} {l:List Int} (h:NR xb w l) (hb:Below w.heap.size w w'):NR xb w' l:=by
 obtain ⟨a,c,h1,h2⟩:=h.own
 refine ⟨⟨a,c,bsome hb h1,own_keep h2 (Kp.of_below (S:=[]) hb) (by simp)⟩,?_⟩
 exact (hb.frozen (p:=⟨xb,0,none⟩) (World.block_lt_of_cell? _ _ h1)).trans h.fz
theorem cellOne (w:World) (x:Value) (t:TypeId): ∀ (j:Nat) u,[x][j]? =some u→(w.alloc (.cells #[x] t)).cell? ((⟨w.heap.size,0,none⟩:Addr).add j)=some u:=by
 intro j u hu
 match j,hu with
 |0,hu=>simp at hu;subst hu;simp [go_sem,Addr.add]
set_option maxRecDepth 100000 in
set_option maxHeartbeats 1000000 in
theorem nextC_any {xb:Nat} {w:World} {l:List Int} (to:Int) (h:NR xb w l) (hl:l.length≤100000):
  Calls Tryz.prog 69 #[.int .i64 to,.pointer (some ⟨xb,0,none⟩)] w fun e w'=>e= .returned (.tuple #[])∧NR xb w' (l++[to])∧Below xb w w'∧(w.cell? ⟨xb,0,none⟩=some (.slice none 0 0)→Kp [xb] w w'):=by
 obtain ⟨i0,hi0,hz0,hz1,hz2⟩:=info_parts Tryz.infoN3
 obtain ⟨a,c,h1,h2⟩:=h.own
 have hx:=World.block_lt_of_cell? _ _ h1
 simp only at hx
 have f0:=h.fz
 have HO:=hide h2
 clear h h2
 go_enter Tryz.func69,Tryz.ntmps69
 go_wp2_with (at_builtin;refine wpList_append_lies _ rfl _ _ 76 rfl (xb+1) 3 i0 (.int .i64 0) 1 8 Tryz.underlying76 hi0 hz0 hz1 hz2 rfl (by decide) _ _ _ rfl (by exact HO.out.alloc _) ⟨w.heap.size,0,none⟩ 1 1 [.int .i64 to] rfl rfl (cellOne w _ 3) (by intro u hu;simp at hu;subst hu;rfl) (by decide) (by unfold maxLen;omega) (by omega) (by simp;omega) _ rfl ?_)
 intro g cap w2 hown hgrow hat hlt
 have hne: ∀ k,k ∈ (Value.slice a l.length c).ownBlock.toList→xb+1≤k:=own_blk HO.out
 have kg:Kp (Value.slice a l.length c).ownBlock.toList w w2:=((Kp.refl _ _).alloc _).trans (Kp.of_grown hgrow)
 have nx:xb ∉ (Value.slice a l.length c).ownBlock.toList:=fun hm=>by have:=hne _ hm;omega
 have d0:=kg.some h1 nx
 have d1:=(kg.frozen (p:=⟨xb,0,none⟩) hx nx).trans f0
 have HOW:=hide hown
 have HBW:Hid (Below xb w w2):=hide ⟨kg.os,kg.tape,kg.output,by have:=kg.size;omega,fun k hk=>kg.block k (by omega) (fun hm=>by have:=hne _ hm;omega)⟩
 have HKG:=hide kg
 clear hown hgrow hat kg
 go_wp2
 go_end0
 refine ⟨rfl,⟨⟨some ⟨g,0,none⟩,cap,?_,?_⟩,by simpa using d1⟩,HBW.out.setCell (Nat.le_refl _) _,fun h0=> ?_⟩
 ·rw [World.cell?_setCell_same (h:=d0)]
  simp
 ·have:=own_keep HOW.out (S:=[xb]) (Kp.rb (Kp.refl _ _) 0 (.slice (some ⟨g,0,none⟩) (l.length+1) cap)) (by simp)
  simpa using this
 ·have hk:=HKG.out
  rw [h1] at h0
  rw [Option.some.inj h0] at hk
  exact Kp.rb (hk.mono (by simp [Value.ownBlock])) _ _
set_option maxHeartbeats 400000 in
theorem isIns_in (q:PV) (p:Cd.Pr) (i:Int) (w:World) (h0:0≤i) (h1:i<(p.ins.length:Int)):
  Calls Tryz.prog 105 #[.agg #[.string p.name,.slice q.av p.vars.length q.cv,.int .i64 p.params,.slice q.ab p.blocks.length q.cb,.slice q.ai p.ins.length q.ci],.int .i64 i] w fun e w'=>e= .returned (.bool true)∧Below w.heap.size w w':=by
 have d1:decide (0≤i)=true:=by simpa using h0
 have d2:decide (i<(p.ins.length:Int))=true:=by simpa using h1
 go_enter Tryz.func105,Tryz.ntmps105
 go_wp2
 go_ret
 exact ⟨rfl,(Below.refl _ _).alloc (Nat.le_refl _) _⟩
def Ow.next (p:Cd.Pr) (i:Nat):Option (List Int):=p.ins[i]?.bind fun x=>
 if x.op=17 then some [] else if x.op=15 then (if 0≤x.to∧x.to<(p.ins.length:Int) then some [x.to] else none)
 else if x.op=14∨x.op=13∨x.op=11 then (if 0≤x.to∧x.to<(p.ins.length:Int)∧x.to ≠ (i:Int)+1∧i+1<p.ins.length then some [min ((i:Int)+1) x.to,max ((i:Int)+1) x.to] else none)
 else if i+1<p.ins.length then some [(i:Int)+1] else none
inductive Ow.Way (p:Cd.Pr) (i:Nat) (x:Cd.In):List Int→Prop
 |exit:x.op=17→Ow.Way p i x []
 |jump:x.op=15→0≤x.to→x.to<(p.ins.length:Int)→Ow.Way p i x [x.to]
 |fork:x.op=14∨x.op=13∨x.op=11→0≤x.to→x.to<(p.ins.length:Int)→x.to ≠ (i:Int)+1→i+1<p.ins.length→Ow.Way p i x [min ((i:Int)+1) x.to,max ((i:Int)+1) x.to]
 |on:x.op ≠ 17→x.op ≠ 15→ ¬ (x.op=14∨x.op=13∨x.op=11)→i+1<p.ins.length→Ow.Way p i x [(i:Int)+1]
theorem Ow.next_way {p:Cd.Pr} {i:Nat} {r:List Int} (h:Ow.next p i=some r): ∃ x,p.ins[i]? =some x∧Ow.Way p i x r:=by
 obtain ⟨x,hx,h⟩:=obind h
 refine ⟨x,hx,?_⟩
 rcases oif h with ⟨h1,h⟩|⟨h1,h⟩
 ·cases h
  exact .exit h1
 rcases oif h with ⟨h2,h⟩|⟨h2,h⟩
 ·rcases oif h with ⟨h3,h⟩|⟨_,h⟩
  ·cases h
   exact .jump h2 h3.1 h3.2
  ·cases h
 rcases oif h with ⟨h3,h⟩|⟨h3,h⟩
 ·rcases oif h with ⟨h4,h⟩|⟨_,h⟩
  ·cases h
   exact .fork h3 h4.1 h4.2.1 h4.2.2.1 h4.2.2.2
  ·cases h
 rcases oif h with ⟨h4,h⟩|⟨_,h⟩
 ·cases h
  exact .on h1 h2 h3 h4
 ·cases h
set_option maxRecDepth 100000 in
set_option maxHeartbeats 4000000 in
theorem onward_ok {q:PV} {p:Cd.Pr} {w:World} (h:PC q p w) (i:Nat) (r:List Int) (hr:Ow.next p i=some r) (hl:p.ins.length≤3000) {xb:Nat} (hN:NR xb w []) (h00:w.cell? ⟨xb,0,none⟩=some (.slice none 0 0)):
  Calls Tryz.prog 68 #[.agg #[.string p.name,.slice q.av p.vars.length q.cv,.int .i64 p.params,.slice q.ab p.blocks.length q.cb,.slice q.ai p.ins.length q.ci],.int .i64 i,.func (.func 69) #[] #[.pointer (some ⟨xb,0,none⟩)]] w fun e w'=>e= .returned (.tuple #[])∧NR xb w' r∧Below xb w w':=by
 obtain ⟨x,hx,hw⟩:=Ow.next_way hr
 obtain ⟨qv,qcv,qb,qcb,qi,qci⟩:=q
 obtain ⟨a1,c1,e1,h1⟩:=h.ins
 dsimp only at e1
 obtain ⟨rfl,-⟩:qi=a1∧qci=c1:=by simpa using e1
 obtain ⟨gi,oi,rfl,h2⟩:=h1 (List.ne_nil_of_mem (List.mem_of_getElem? hx))
 obtain ⟨ae,ce,aa,ca,h3⟩:=h2 i x hx
 have hi1:i<p.ins.length:=(List.getElem?_eq_some_iff.1 hx).1
 have hi0:(0:Int)≤(i:Int):=by omega
 have hi2:(i:Int)<(p.ins.length:Int):=by omega
 obtain ⟨av,cv,x1,x2⟩:=hN.own
 have hxl:=World.block_lt_of_cell? _ _ x1
 simp only at hxl
 have HN:=hide hN
 have H00:=hide h00
 have CI:=hide (fun k w h0 h1=>isIns_in ⟨qv,qcv,qb,qcb,some ⟨gi,oi,none⟩,qci⟩ p k w h0 h1)
 have CN:=hide (fun (l:List Int) k w (h:NR xb w l) hl=>nextC_any k h hl)
 have hF: ∀ k w',(callFunc 69 #[.int .i64 k,.pointer (some ⟨xb,0,none⟩)]).run Tryz.prog w'= .ok (.enter 69 #[.int .i64 k,.pointer (some ⟨xb,0,none⟩)]) w':=fun _ _=>rfl
 have HC:=hide h3
 have hb0:Below w.heap.size w (w.alloc (.cells #[.string p.name,.slice qv p.vars.length qcv,.int .i64 p.params,.slice qb p.blocks.length qcb,.slice (some ⟨gi,oi,none⟩) p.ins.length qci] 26)):=(Below.refl _ _).alloc (Nat.le_refl _) _
 have HB0:=hide hb0
 have HF:=hide hF
 have HW:=hide hw
 clear h h1 h2 h3 e1 hr hx x1 x2 hN hb0 hF hw h00
 dsimp only at CI ⊢
 go_enter Tryz.func68,Tryz.ntmps68
 go_wp2_with fail
 refine (CI.out _ _ hi0 hi2).mono ?_
 rintro e w1 ⟨rfl,hb1⟩
 have B1:=hide (btrans HB0.out hb1)
 obtain ⟨c0,c1',c2,c3,c4,c5,c6,c7,c8,c9,c10,-,-⟩:=HC.out
 have c0:=bsome B1.out c0
 have c1':=bsome B1.out c1'
 have c2:=bsome B1.out c2
 have c3:=bsome B1.out c3
 have c4:=bsome B1.out c4
 have c5:=bsome B1.out c5
 have c6:=bsome B1.out c6
 have c7:=bsome B1.out c7
 have c8:=bsome B1.out c8
 have c9:=bsome B1.out c9
 have c10:=bsome B1.out c10
 have P0:Hid (SB w1 w.heap.size [.string p.name,.slice qv p.vars.length qcv,.int .i64 p.params,.slice qb p.blocks.length qcb,.slice (some ⟨gi,oi,none⟩) p.ins.length qci]):=hide ((SB.new w _ rfl _ 26).keep (Kp.of_below (S:=[]) hb1) (by simp))
 have p0:=P0.out.cs 0 _ rfl
 have p1:=P0.out.cs 1 _ rfl
 have p2:=P0.out.cs 2 _ rfl
 have p3:=P0.out.cs 3 _ rfl
 have p4:=P0.out.cs 4 _ rfl
 have hw1:=P0.out.lt
 have N1:=hide (HN.out.below B1.out)
 have BX:=hide (B1.out.mono (Nat.le_of_lt hxl))
 have H01:=hide (bsome B1.out H00.out)
 clear hb1 HC B1
 cases HW.out with
 |exit ho=>
  rw [ho] at c0
  go_wp2
  refine bodyPost_ret (results_none rfl _ _ _) rfl ?_
  exact ⟨rfl,N1.out.below ((Below.refl _ _).alloc (Nat.le_refl _) _),BX.out.alloc (by omega) _⟩
 |jump ho h0 h1=>
  rw [ho] at c0
  have mi:min x.to x.to=x.to:=by omega
  have ma:max x.to x.to=x.to:=by omega
  go_wp2
  go_quiet (fail)
  have hF:=HF.out
  go_wp2_with fail
  refine (CI.out _ _ h0 h1).mono ?_
  rintro e w2 ⟨rfl,hb2⟩
  have B2:=hide (btrans (below_drewN ((Below.refl _ _).alloc (Nat.le_refl _) _) _) hb2)
  have P2:=hide (P0.out.keep (Kp.of_below (S:=[]) B2.out) (by simp))
  have r0:=P2.out.cs 0 _ rfl
  have r1:=P2.out.cs 1 _ rfl
  have r2:=P2.out.cs 2 _ rfl
  have r3:=P2.out.cs 3 _ rfl
  have r4:=P2.out.cs 4 _ rfl
  have BX2:=hide (BX.out.trans (B2.out.mono (by omega)))
  have N2:=hide (N1.out.below B2.out)
  clear hb2 B2 p0 p1 p2 p3 p4 c0 c1' c2 c3 c4 c5 c6 c7 c8 c9 c10
  go_wp2_with fail
  refine (CN.out [] x.to _ N2.out (by simp)).mono ?_
  rintro e w3 ⟨rfl,hn3,hb3,hk3⟩
  have HN3:=hide hn3
  have HB3:=hide (BX2.out.trans hb3)
  clear hn3 hb3
  go_wp2
  go_end0
  exact ⟨rfl,HN3.out,HB3.out⟩
 |fork ho h0 h1 h2 h3=>
  have o1:(x.op == 17)=false:=by simp;omega
  have o2:(x.op == 15)=false:=by simp;omega
  have hL:0≤min ((i:Int)+1) x.to∧min ((i:Int)+1) x.to<(p.ins.length:Int):=by omega
  have hH:0≤max ((i:Int)+1) x.to∧max ((i:Int)+1) x.to<(p.ins.length:Int):=by omega
  have hne:(max ((i:Int)+1) x.to !=min ((i:Int)+1) x.to)=true:=by simp;omega
  generalize hEL:min ((i:Int)+1) x.to=L at *
  generalize hEH:max ((i:Int)+1) x.to=H at *
  have ho':(x.op == 14)=true∨((x.op == 14)=false∧(x.op == 13)=true)∨((x.op == 14)=false∧(x.op == 13)=false∧(x.op == 11)=true):=by
   rcases ho with e|e|e<;> rw [e]<;> decide
  rcases ho' with o3|⟨o3,o4⟩|⟨o3,o4,o5⟩
  all_goals
   have hF:=HF.out
   go_wp2_with fail
   refine (CI.out _ _ hL.1 hL.2).mono ?_
   rintro e w2 ⟨rfl,hb2⟩
   have B2:=hide (btrans ((Below.refl _ _).alloc (Nat.le_refl _) _) hb2)
   have P2:=hide (P0.out.keep (Kp.of_below (S:=[]) B2.out) (by simp))
   have BX2:=hide (BX.out.trans (B2.out.mono (by omega)))
   have N2:=hide (N1.out.below B2.out)
   have H02:=hide (bsome B2.out H01.out)
   clear hb2 B2 p0 p1 p2 p3 p4 c0 c1' c2 c3 c4 c5 c6 c7 c8 c9 c10
   go_wp2_with fail
   refine (CN.out [] L _ N2.out (by simp)).mono ?_
   rintro e w3 ⟨rfl,hn3,hb3,hk3⟩
   have BX3:=hide (BX2.out.trans hb3)
   have N3:=hide hn3
   have hpx:w.heap.size ≠ xb:=by omega
   have P3:Hid (SB w3 w.heap.size [.string p.name,.slice qv p.vars.length qcv,.int .i64 p.params,.slice qb p.blocks.length qcb,.slice (some ⟨gi,oi,none⟩) p.ins.length qci]):=hide (P2.out.keep (hk3 H02.out) (by simp;omega))
   have r0:=P3.out.cs 0 _ rfl
   have r1:=P3.out.cs 1 _ rfl
   have r2:=P3.out.cs 2 _ rfl
   have r3:=P3.out.cs 3 _ rfl
   have r4:=P3.out.cs 4 _ rfl
   clear hn3 hb3
   go_wp2_with fail
   refine (CI.out _ _ hH.1 hH.2).mono ?_
   rintro e w4 ⟨rfl,hb4⟩
   have N4:=hide (N3.out.below hb4)
   have BX4:=hide (BX3.out.trans (hb4.mono (by have:=BX3.out.size;omega)))
   clear hb4 r0 r1 r2 r3 r4
   go_wp2_with fail
   refine (CN.out [L] H _ N4.out (by simp)).mono ?_
   rintro e w5 ⟨rfl,hn5,hb5,-⟩
   have N5:=hide hn5
   have BX5:=hide (BX4.out.trans hb5)
   clear hn5 hb5
   go_wp2
   go_end0
   rw [hEL,hEH]
   exact ⟨rfl,N5.out,BX5.out⟩
 |on ho1 ho2 ho3 h1=>
  have o1:(x.op == 17)=false:=by simpa using ho1
  have o2:(x.op == 15)=false:=by simpa using ho2
  have o3:(x.op == 14)=false:=by simp;omega
  have o4:(x.op == 13)=false:=by simp;omega
  have o5:(x.op == 11)=false:=by simp;omega
  have mi:min ((i:Int)+1) ((i:Int)+1)=(i:Int)+1:=by omega
  have ma:max ((i:Int)+1) ((i:Int)+1)=(i:Int)+1:=by omega
  have hF:=HF.out
  go_wp2_with fail
  refine (CI.out _ _ (by omega) (by omega)).mono ?_
  rintro e w2 ⟨rfl,hb2⟩
  have B2:=hide (btrans ((Below.refl _ _).alloc (Nat.le_refl _) _) hb2)
  have P2:=hide (P0.out.keep (Kp.of_below (S:=[]) B2.out) (by simp))
  have r0:=P2.out.cs 0 _ rfl
  have r1:=P2.out.cs 1 _ rfl
  have r2:=P2.out.cs 2 _ rfl
  have r3:=P2.out.cs 3 _ rfl
  have r4:=P2.out.cs 4 _ rfl
  have BX2:=hide (BX.out.trans (B2.out.mono (by omega)))
  have N2:=hide (N1.out.below B2.out)
  clear hb2 B2 p0 p1 p2 p3 p4 c0 c1' c2 c3 c4 c5 c6 c7 c8 c9 c10
  go_wp2_with fail
  refine (CN.out [] ((i:Int)+1) _ N2.out (by simp)).mono ?_
  rintro e w3 ⟨rfl,hn3,hb3,hk3⟩
  have HN3:=hide hn3
  have HB3:=hide (BX2.out.trans hb3)
  clear hn3 hb3
  go_wp2
  go_end0
  exact ⟨rfl,HN3.out,HB3.out⟩
set_option maxRecDepth 100000 in
set_option maxHeartbeats 1000000 in
theorem next_ok {q:PV} {p:Cd.Pr} {w:World} (h:PC q p w) (i:Nat) (r:List Int) (hr:Ow.next p i=some r) (hl:p.ins.length≤3000):
  Calls Tryz.prog 40 #[.agg #[.string p.name,.slice q.av p.vars.length q.cv,.int .i64 p.params,.slice q.ab p.blocks.length q.cb,.slice q.ai p.ins.length q.ci],.int .i64 i] w fun e w'=> ∃ a c,e= .returned (.slice a r.length c)∧w'.ownsRow (w.heap.size+2) 3 1 (.slice a r.length c) r.length (r.map (.int .i64))∧Below w.heap.size w w':=by
 have hmf: ∀ (fn:Fn) (first cap:Array Value) (w:World),(Instr.makeFunc fn first cap).run Tryz.prog w= .ok (.func fn first cap) w:=fun _ _ _ _=>rfl
 have hb0:Below w.heap.size w ((w.alloc (.cells #[.string p.name,.slice q.av p.vars.length q.cv,.int .i64 p.params,.slice q.ab p.blocks.length q.cb,.slice q.ai p.ins.length q.ci] 26)).alloc (.cells #[.slice none 0 0] 76)):=((Below.refl _ _).alloc (Nat.le_refl _) _).alloc (by simp) _
 have CO:=hide (onward_ok (h.keep hb0) i r hr hl (xb:=w.heap.size+1) ⟨⟨none,0,by simp [go_sem],World.ownsRow_nil _ _ _ _⟩,by simp [go_sem]⟩ (by simp [go_sem]))
 have HB0:=hide hb0
 clear h hr hb0
 go_enter Tryz.func40,Tryz.ntmps40
 go_wp2_with fail
 refine CO.out.mono ?_
 rintro e w1 ⟨rfl,hn,hb⟩
 obtain ⟨a,c,x1,x2⟩:=hn.own
 have HO:=hide x2
 have HB:=hide (HB0.out.trans (hb.mono (by omega)))
 clear hn hb x2
 go_wp2
 go_ret
 exact ⟨a,c,rfl,HO.out,HB.out⟩
theorem Tryz.infoIs:(Tryz.prog.info? 76).map (fun i=>(i.zero,i.size,i.bytes))=some (some (.slice none 0 0),1,24):=by kernel_rfl
theorem Tryz.infoOact:(Tryz.prog.info? 83).map (fun i=>(i.zero,i.size,i.bytes))=some (some (.agg #[.int .i64 0,.int .i64 0,.int .i64 0]),3,24):=by kernel_rfl
theorem made_nil (n k:Nat) (h:k<n):(madeCells #[Value.slice none 0 0] n)[k]? =some (.slice none 0 0):=by
 unfold madeCells
 rw [Array.getElem?_map]
 simp [h,Nat.mod_one]
theorem make_nils (n:Nat) (hn:n≤3000): ∃ Z:Array Value,(∀ k,k<n→Z[k]? =some (.slice none 0 0))∧ ∀ w:World,(Instr.makeSlice 77 (.int .i64 (n:Int)) (.int .i64 (n:Int))).run Tryz.prog w= .ok (.slice (some ⟨w.heap.size,0,none⟩) n n) (w.alloc (.cells Z 76)):=by
 obtain ⟨i0,hi,hz0,hz1,hz2⟩:=info_parts Tryz.infoIs
 refine ⟨madeCells #[Value.slice none 0 0] n,made_nil n,fun w=> ?_⟩
 have:=run_make (P:=Tryz.prog) w 77 76 i0 (.slice none 0 0) Tryz.underlying77 hi hz0 .i64 .i64 (n:Int) (n:Int) (by omega) (Int.le_refl _) (by rw [hz2];omega) (by omega)
 rw [hz1] at this
 simpa [Value.cells] using this
def Ow.acl (a:Ow.Ac):List Value:=[.int .i64 a.1,.int .i64 a.2.1,.int .i64 (a.2.2:Nat)]
def Ow.acs (p:Cd.Pr):Nat→List Ow.Ac
 |0=>[]
 |n+1=>Ow.acs p n++(Cd.acts p n).map fun a=>(a.1,a.2,n)
def Ow.rng (n:Nat):List Int:=(List.range n).map Int.ofNat
theorem Ow.rng_succ (n:Nat):Ow.rng (n+1)=Ow.rng n++[(n:Int)]:=by simp [Ow.rng,List.range_succ]
theorem Ow.rng_len (n:Nat):(Ow.rng n).length=n:=by simp [Ow.rng]
theorem Ow.acs_mono (p:Cd.Pr) {i n:Nat} (h:i≤n):(Ow.acs p i).length≤(Ow.acs p n).length:=by
 induction n with
 |zero=>rw [show i=0 from by omega];exact Nat.le_refl _
 |succ n ih=>
  by_cases e:i=n+1
  ·rw [e];exact Nat.le_refl _
  ·have:=ih (by omega)
   simp [Ow.acs];omega
def Far (av bv u:Value):Prop:= ∀ j,u.ownBlock=some j→av.ownBlock ≠ some j∧bv.ownBlock ≠ some j
structure NCo (g nb bb B:Nat) (q:PV) (p:Cd.Pr) (NX:List (List Int)) (w0:World) (us:List Value) (i:Nat) (av bv:Value) (ac:List Ow.Ac) (band:List Int) (va:Value) (L:List (Int × Int)) (w:World):Prop where
 t:SB w w0.heap.size [.string p.name,.slice q.av p.vars.length q.cv,.int .i64 p.params,.slice q.ab p.blocks.length q.cb,.slice q.ai p.ins.length q.ci]
 c:SB w g [.string p.name,.slice q.av p.vars.length q.cv,.int .i64 p.params,.slice q.ab p.blocks.length q.cb,.slice q.ai p.ins.length q.ci,.slice (some ⟨nb,0,none⟩) p.ins.length p.ins.length,av,.slice (some ⟨bb,0,none⟩) 1 1]
 n:SB w nb us
 b:SB w bb [bv]
 ao:w.ownsRow B 83 3 av ac.length (ac.flatMap Ow.acl)
 bo:w.ownsRow B 3 1 bv band.length (band.map (.int .i64))
 vo:w.ownsRow B 57 2 va L.length (fcells L)
 vf:Far av bv va
 ul:us.length=p.ins.length
 nr: ∀ (k:Nat) l,k<i→NX[k]? =some l→ ∃ u,us[k]? =some u∧w.ownsRow B 3 1 u l.length (l.map (.int .i64))∧Far av bv u
 ab: ∀ j,bv.ownBlock=some j→av.ownBlock ≠ some j
 lt:g<B∧nb<B∧bb<B∧g ≠ nb∧g ≠ bb∧nb ≠ bb
 ge:w0.heap.size<g∧w0.heap.size<nb∧w0.heap.size<bb
 be:Below w0.heap.size w0 w
section
variable {g nb bb B i:Nat} {q:PV} {p:Cd.Pr} {NX:List (List Int)} {w0 w w':World} {us:List Value} {av bv va:Value} {ac:List Ow.Ac} {band:List Int} {L:List (Int × Int)}
theorem NCo.below (h:NCo g nb bb B q p NX w0 us i av bv ac band va L w) (hb:Below w.heap.size w w'):NCo g nb bb B q p NX w0 us i av bv ac band va L w':=by
 have k:Kp [] w w':=Kp.of_below hb
 refine { h with t:=h.t.keep k (by simp),c:=h.c.keep k (by simp),n:=h.n.keep k (by simp),b:=h.b.keep k (by simp),ao:=own_keep h.ao k (by simp),bo:=own_keep h.bo k (by simp),vo:=own_keep h.vo k (by simp),nr:=fun j l hj hl=> ?_,be:=h.be.trans (hb.mono h.be.size) }
 obtain ⟨u,h1,h2,h3⟩:=h.nr j l hj hl
 exact ⟨u,h1,own_keep h2 k (by simp),h3⟩
theorem NCo.acts (h:NCo g nb bb B q p NX w0 us i av bv ac band va L w) {va':Value} {L':List (Int × Int)} (ho:w.ownsRow B 57 2 va' L'.length (fcells L')) (hf:Far av bv va'):NCo g nb bb B q p NX w0 us i av bv ac band va' L' w:={ h with vo:=ho,vf:=hf }
theorem kp_below {S:List Nat} {n:Nat} (hk:Kp S w w') (hn:n≤w.heap.size) (hS: ∀ j,j ∈ S→n≤j):Below n w w':=
 ⟨hk.os,hk.tape,hk.output,hk.size,fun k h1=>hk.block k (by omega) (fun hm=>by have:=hS k hm;omega)⟩
theorem NCo.next (h:NCo g nb bb B q p NX w0 us i av bv ac band va L w) {u:Value} {l:List Int} (hi:i<p.ins.length) (hl:NX[i]? =some l) (hu:w.ownsRow B 3 1 u l.length (l.map (.int .i64))) (hf:Far av bv u):NCo g nb bb B q p NX w0 (us.set i u) (i+1) av bv ac band va L (w.setCell ⟨nb,i,none⟩ u):=by
 have k:Kp [nb] w (w.setCell ⟨nb,i,none⟩ u):=Kp.rb (Kp.refl _ _) _ _
 have hB: ∀ j,j ∈ [nb]→j<B:=fun j hj=>by simp at hj;rw [hj];exact h.lt.2.1
 obtain ⟨x,hx⟩: ∃ x,us[i]? =some x:=⟨_,List.getElem?_eq_getElem (by rw [h.ul];exact hi)⟩
 have h1:=h.lt
 have h2:=h.ge
 refine { h with t:=h.t.keep k (by simp;omega),c:=h.c.keep k (by simp;omega),n:=h.n.set hx u,b:=h.b.keep k (by simp;omega),ao:=own_keep h.ao k hB,bo:=own_keep h.bo k hB,vo:=own_keep h.vo k hB,nr:=fun j l' hj hl'=> ?_,ul:=by simpa using h.ul,be:=h.be.trans (kp_below k h.be.size (fun j hj=>by simp at hj;omega)) }
 by_cases e:j=i
 ·subst e
  rw [hl] at hl'
  cases hl'
  exact ⟨u,by rw [List.getElem?_set_self (by rw [h.ul];exact hi)],own_keep hu k hB,hf⟩
 ·obtain ⟨u',q1,q2,q3⟩:=h.nr j l' (by omega) hl'
  exact ⟨u',by rw [List.getElem?_set_ne (by omega)];exact q1,own_keep q2 k hB,q3⟩
theorem own_away {B t z n:Nat} {v:Value} {xs:List Value} {S:List Nat} (h:w.ownsRow B t z v n xs) (k:Kp S w w') (hS: ∀ j,v.ownBlock=some j→j ∉ S):w'.ownsRow B t z v n xs:=
 own_keepT h (fun j hj=>k.block j (own_lt h j hj.symm) (hS j hj))
theorem NCo.growA (h:NCo g nb bb B q p NX w0 us i av bv ac band va L w) {w2:World} {av':Value} {x:Ow.Ac} (hk:Kp av.ownBlock.toList w w2) (ho:w2.ownsRow B 83 3 av' (ac.length+1) (ac.flatMap Ow.acl++Ow.acl x)) (hat:av'.ownBlock=av.ownBlock∨ ∃ H,av'.ownBlock=some H∧w.heap.size≤H):
  NCo g nb bb B q p NX w0 us i av' bv (ac++[x]) band va L (w2.setCell ⟨g,6,none⟩ av'):=by
 have k:Kp (g::av.ownBlock.toList) w (w2.setCell ⟨g,6,none⟩ av'):=Kp.rb (hk.mono (fun j hj=>List.mem_cons_of_mem _ hj)) _ _
 have k2:Kp [g] w2 (w2.setCell ⟨g,6,none⟩ av'):=Kp.rb (Kp.refl _ _) _ _
 have h1:=h.lt
 have h2:=h.ge
 have hB:=own_blk h.ao
 have hn: ∀ j,j<B→j ≠ g→j ∉ g::av.ownBlock.toList:=fun j h3 h4 hm=>by
  rcases List.mem_cons.1 hm with e|e
  ·exact h4 e
  ·have:=hB j e;omega
 have hrow: ∀ (v:Value) (t z n:Nat) (xs:List Value),w.ownsRow B t z v n xs→(∀ j,v.ownBlock=some j→av.ownBlock ≠ some j)→(w2.setCell ⟨g,6,none⟩ av').ownsRow B t z v n xs∧ ∀ j,v.ownBlock=some j→av'.ownBlock ≠ some j:=fun v t z n xs hv hf=>
  ⟨own_away hv k (fun j hj hm=>by
   rcases List.mem_cons.1 hm with e|e
   ·have:=own_blk hv j (by rw [hj];simp);omega
   ·exact hf j hj (by simpa using e)),fun j hj e=>by
   rcases hat with ha|⟨H,ha,hH⟩
   ·rw [ha] at e;exact hf j hj e
   ·rw [ha] at e;have:=own_lt hv j hj.symm;cases e;omega⟩
 refine { h with t:=h.t.keep k (hn _ (by omega) (by omega)),c:=(h.c.keep hk (fun hm=>by have:=hB g hm;omega)).set (u:=av) rfl av',n:=h.n.keep k (hn _ (by omega) (by omega)),b:=h.b.keep k (hn _ (by omega) (by omega)),ao:= ?_,bo:=(hrow _ _ _ _ _ h.bo h.ab).1,vo:=(hrow _ _ _ _ _ h.vo (fun j hj=>(h.vf j hj).1)).1,vf:=fun j hj=>⟨(hrow _ _ _ _ _ h.vo (fun j hj=>(h.vf j hj).1)).2 j hj,(h.vf j hj).2⟩,nr:=fun j l hj hl=> ?_,ab:=(hrow _ _ _ _ _ h.bo h.ab).2,be:=h.be.trans (kp_below k h.be.size (fun j hj=> ?_)) }
 ·have:=own_keep ho k2 (fun j hj=>by simp at hj;omega)
  simpa using this
 ·obtain ⟨u,q1,q2,q3⟩:=h.nr j l hj hl
  have:=hrow _ _ _ _ _ q2 (fun j hj=>(q3 j hj).1)
  exact ⟨u,q1,this.1,fun j hj=>⟨this.2 j hj,(q3 j hj).2⟩⟩
 ·rcases List.mem_cons.1 hj with e|e
  ·omega
  ·have:=hB j e;omega
theorem NCo.growB (h:NCo g nb bb B q p NX w0 us i av bv ac band va L w) {w2:World} {bv':Value} {x:Int} (hk:Kp bv.ownBlock.toList w w2) (ho:w2.ownsRow B 3 1 bv' (band.length+1) (band.map (.int .i64)++[.int .i64 x])) (hat:bv'.ownBlock=bv.ownBlock∨ ∃ H,bv'.ownBlock=some H∧w.heap.size≤H):
  NCo g nb bb B q p NX w0 us i av bv' ac (band++[x]) va L (w2.setCell ⟨bb,0,none⟩ bv')∧ ∀ (b o:Nat) v,w.cell? ⟨b,o,none⟩=some v→B≤b→bv.ownBlock ≠ some b→(w2.setCell ⟨bb,0,none⟩ bv').cell? ⟨b,o,none⟩=some v:=by
 have k:Kp (bb::bv.ownBlock.toList) w (w2.setCell ⟨bb,0,none⟩ bv'):=Kp.rb (hk.mono (fun j hj=>List.mem_cons_of_mem _ hj)) _ _
 have k2:Kp [bb] w2 (w2.setCell ⟨bb,0,none⟩ bv'):=Kp.rb (Kp.refl _ _) _ _
 have h1:=h.lt
 have h2:=h.ge
 have hB:=own_blk h.bo
 have hn: ∀ j,j<B→j ≠ bb→j ∉ bb::bv.ownBlock.toList:=fun j h3 h4 hm=>by
  rcases List.mem_cons.1 hm with e|e
  ·exact h4 e
  ·have:=hB j e;omega
 have hrow: ∀ (v:Value) (t z n:Nat) (xs:List Value),w.ownsRow B t z v n xs→(∀ j,v.ownBlock=some j→bv.ownBlock ≠ some j)→(w2.setCell ⟨bb,0,none⟩ bv').ownsRow B t z v n xs∧ ∀ j,v.ownBlock=some j→bv'.ownBlock ≠ some j:=fun v t z n xs hv hf=>
  ⟨own_away hv k (fun j hj hm=>by
   rcases List.mem_cons.1 hm with e|e
   ·have:=own_blk hv j (by rw [hj];simp);omega
   ·exact hf j hj (by simpa using e)),fun j hj e=>by
   rcases hat with ha|⟨H,ha,hH⟩
   ·rw [ha] at e;exact hf j hj e
   ·rw [ha] at e;have:=own_lt hv j hj.symm;cases e;omega⟩
 have hA:=hrow _ _ _ _ _ h.ao (fun j hj e=>h.ab j e hj)
 refine ⟨{ h with t:=h.t.keep k (hn _ (by omega) (by omega)),c:=h.c.keep k (hn _ (by omega) (by omega)),n:=h.n.keep k (hn _ (by omega) (by omega)),b:=(h.b.keep hk (fun hm=>by have:=hB bb hm;omega)).set (u:=bv) rfl bv',ao:=hA.1,bo:= ?_,vo:=(hrow _ _ _ _ _ h.vo (fun j hj=>(h.vf j hj).2)).1,vf:=fun j hj=>⟨(h.vf j hj).1,(hrow _ _ _ _ _ h.vo (fun j hj=>(h.vf j hj).2)).2 j hj⟩,nr:=fun j l hj hl=> ?_,ab:=fun j hj e=>hA.2 j e hj,be:=h.be.trans (kp_below k h.be.size (fun j hj=> ?_)) },fun b o v hv hb hne=>k.some hv (fun hm=> ?_)⟩
 ·have:=own_keep ho k2 (fun j hj=>by simp at hj;omega)
  simpa using this
 ·obtain ⟨u,q1,q2,q3⟩:=h.nr j l hj hl
  have:=hrow _ _ _ _ _ q2 (fun j hj=>(q3 j hj).2)
  exact ⟨u,q1,this.1,fun j hj=>⟨(q3 j hj).1,this.2 j hj⟩⟩
 ·rcases List.mem_cons.1 hj with e|e
  ·omega
  ·have:=hB j e;omega
 ·rcases List.mem_cons.1 hm with e|e
  ·simp only at e;omega
  ·exact hne (by simpa using e)
theorem own_IR {B:Nat} {v:Value} {l:List Int} (h:w.ownsRow B 3 1 v l.length (l.map (.int .i64))):IR w v l:=by
 rcases h.2 with ⟨hv,h0⟩|⟨g,cap,cur,hv,hb,hg,hnc,hcm,_,_⟩
 ·exact ⟨none,0,by rw [hv,h0],fun hn=>absurd (List.eq_nil_of_length_eq_zero h0) hn⟩
 ·refine ⟨_,cap,hv,fun _=>⟨g,0,rfl,fun k x hx=> ?_⟩⟩
  have h1:=h.cells (g:=g) (by rw [hv];rfl) k (.int .i64 x) (by simp [hx])
  rw [add_off] at h1
  rw [Nat.zero_add]
  exact h1
theorem acl_at {ac:List Ow.Ac} {k:Nat} {a:Ow.Ac} (h:ac[k]? =some a):(ac.flatMap Ow.acl)[k * 3]? =some (.int .i64 a.1)∧(ac.flatMap Ow.acl)[k * 3+1]? =some (.int .i64 a.2.1)∧(ac.flatMap Ow.acl)[k * 3+2]? =some (.int .i64 (a.2.2:Nat)):=by
 induction ac generalizing k with
 |nil=>cases h
 |cons x r ih=>
  cases k with
  |zero=>cases h;exact ⟨rfl,rfl,rfl⟩
  |succ k=>
   rw [show (k+1) * 3=k * 3+3 from by omega]
   exact ih (by simpa using h)
theorem own_AcX {B:Nat} {v:Value} {l:List Ow.Ac} (h:w.ownsRow B 83 3 v l.length (l.flatMap Ow.acl)):AcX w v l:=by
 rcases h.2 with ⟨hv,h0⟩|⟨g,cap,cur,hv,hb,hg,hnc,hcm,_,_⟩
 ·exact ⟨none,0,by rw [hv,h0],fun hn=>absurd (List.eq_nil_of_length_eq_zero h0) hn⟩
 ·refine ⟨_,cap,hv,fun _=>⟨g,0,rfl,fun k x hx=> ?_⟩⟩
  obtain ⟨e1,e2,e3⟩:=acl_at hx
  have h1:=h.cells (g:=g) (by rw [hv];rfl) _ _ e1
  have h2:=h.cells (g:=g) (by rw [hv];rfl) _ _ e2
  have h3:=h.cells (g:=g) (by rw [hv];rfl) _ _ e3
  rw [add_off] at h1 h2 h3
  rw [Nat.zero_add]
  exact ⟨h1,h2,h3⟩
theorem NCo.cox (h:NCo g nb bb B q p NX w0 us p.ins.length av bv ac band va L w) (hp:PC q p w0) (hN:NX.length=p.ins.length):CoX g q p NX ac [band] w:=by
 have c0:=h.c.cs 0 _ rfl
 have c1:=h.c.cs 1 _ rfl
 have c2:=h.c.cs 2 _ rfl
 have c3:=h.c.cs 3 _ rfl
 have c4:=h.c.cs 4 _ rfl
 have c5:=h.c.cs 5 _ rfl
 have c6:=h.c.cs 6 _ rfl
 have c7:=h.c.cs 7 _ rfl
 refine ⟨⟨c0,c1,c2,c3,c4,hp.keep h.be⟩,⟨_,c5,_,_,by rw [hN],fun _=>⟨nb,0,rfl,fun k l hl=> ?_⟩⟩,⟨_,c6,own_AcX h.ao⟩,⟨_,c7,_,_,rfl,fun _=>⟨bb,0,rfl,fun k l hl=> ?_⟩⟩⟩
 ·obtain ⟨u,q1,q2,-⟩:=h.nr k l (by have:=(List.getElem?_eq_some_iff.1 hl).1;omega) hl
  exact ⟨u,by rw [Nat.zero_add];exact h.n.cs k u q1,own_IR q2⟩
 ·match k,hl with
  |0,hl=>cases hl;exact ⟨bv,h.b.cs 0 _ rfl,own_IR h.bo⟩
end
end Go.Proofs.YteeocekjekclbaaGreatDoor
namespace Go.Proofs.YteeocekjekclbaaGreatDoor
open Go.RowKit
namespace Ow
def one (p:Cd.Pr) (i:Nat) (t:Int × Int) (S L:List Int) (k:Nat):Option (List Int × List Int):=
 S[k]?.bind fun a=>S[i]?.bind fun b=>if Ow.join [a,Ow.along p i k t b]=a then some (S,L) else some (S.set k (Ow.join [a,Ow.along p i k t b]),L++[(k:Int)])
def ones (p:Cd.Pr) (i:Nat) (t:Int × Int):List Int→List Int→List Int→Option (List Int × List Int)
 |S,L,[]=>some (S,L)
 |S,L,x::r=>if 0≤x then (one p i t S L x.toNat).bind fun y=>ones p i t y.1 y.2 r else none
def wave (p:Cd.Pr) (NX:List (List Int)) (T:List (Int × Int)):List Int→List Int→List Int→Option (List Int × List Int)
 |S,L,[]=>some (S,L)
 |S,L,x::r=>if 0≤x then NX[x.toNat]?.bind fun nx=>T[x.toNat]?.bind fun t=>(ones p x.toNat t S L nx).bind fun y=>wave p NX T y.1 y.2 r else none
def waves (p:Cd.Pr) (NX:List (List Int)) (T:List (Int × Int)):Nat→List Int→List Int→Option (List Int)
 |0,_,_=>none
 |n+1,S,W=>if W=[] then some S else (wave p NX T S [] W).bind fun y=>if y.2.length≤100000 then waves p NX T n y.1 y.2 else none
def ahead (p:Cd.Pr) (NX:List (List Int)) (ac:List Ac) (b:Nat) (band:List Nat):Option (List Int):=
 if p.ins=[] then none else (turns ac p.ins.length band).bind fun T=>waves p NX T 1000 ((List.replicate p.ins.length 0).set 0 (first p b)) [0]
def judge1 (ac:List Ac) (S B:List Int) (k:Nat):Option (List Int × List Int):=
 ac[k]?.bind fun a=>S[a.2.2]?.bind fun s=>B[k]?.bind fun _=>if s=0 then some (S,B) else
   if (a.1=1∨a.1=2∨a.1=3∨a.1=4)∧0≤a.2.1∧a.2.1≤1000000∧(of s a.2.1=0∨of s a.2.1=1∨of s a.2.1=2∨of s a.2.1=3) then some (S.set a.2.2 (behind (and (0,0) a.1 a.2.1) s),B.set k (rule a.1 (of s a.2.1))) else none
def judgeGo (ac:List Ac):List Int→List Int→List Nat→Option (List Int × List Int)
 |S,B,[]=>some (S,B)
 |S,B,k::r=>(judge1 ac S B k).bind fun y=>judgeGo ac y.1 y.2 r
def judge (p:Cd.Pr) (NX:List (List Int)) (ac:List Ac) (b:Nat) (band:List Nat) (B:List Int):Option (List Int):=
 if band=[] then some B else (ahead p NX ac b band).bind fun S=>(judgeGo ac S B band).bind fun y=>some y.2
def told:List Ac→List Int→List (Int × Int × Int)
 |a::r,b::s=>if b=0 then told r s else (b,(a.2.2:Int),a.2.1)::told r s
 |_,_=>[]
def nexts (p:Cd.Pr):Nat→Option (List (List Int))
 |0=>some []
 |n+1=>(nexts p n).bind fun l=>(next p n).bind fun x=>some (l++[x])
end Ow
end Go.Proofs.YteeocekjekclbaaGreatDoor
namespace Go.Proofs.YteeocekjekclbaaGreatDoor
open Go.RowKit
theorem own_none {w:World} {B e z g n cap:Nat} {xs:List Value} (h:w.ownsRow B e z (.slice (some ⟨g,0,none⟩) n cap) n xs):w.ownsRow B e z (.slice (some ⟨g,0,none⟩) 0 cap) 0 []:=by
 rcases h.2 with ⟨hv,_⟩|⟨g',cap',cur,hv,h1,h2,h3,h4,h5,h6⟩
 ·cases hv
 ·cases hv
  exact ⟨by simp,.inr ⟨g,cap,cur,rfl,h1,h2,by omega,h4,h5,by simp⟩⟩
structure AH (T:List (Int × Int)) (n:Nat) (w0:World) (S:List Int) (wv:Value) (W:List Int) (lv:Value) (L:List Int) (w:World):Prop where
 s:SB w w0.heap.size (S.map (.int .u64))
 t:SB w (w0.heap.size+1) (Ow.tcs T)
 wo:w.ownsRow (w0.heap.size+2) 3 1 wv W.length (W.map (.int .i64))
 lo:w.ownsRow (w0.heap.size+2) 3 1 lv L.length (L.map (.int .i64))
 ne: ∀ j,lv.ownBlock=some j→wv.ownBlock ≠ some j
 sl:S.length=n
 tl:T.length=n
 be:Below w0.heap.size w0 w
section
variable {T:List (Int × Int)} {n:Nat} {w0 w w':World} {S W L:List Int} {wv lv:Value}
theorem AH.below (h:AH T n w0 S wv W lv L w) (hb:Below w.heap.size w w'):AH T n w0 S wv W lv L w':=by
 have k:Kp [] w w':=Kp.of_below hb
 exact { h with s:=h.s.keep k (by simp),t:=h.t.keep k (by simp),wo:=own_keep h.wo k (by simp),lo:=own_keep h.lo k (by simp),be:=h.be.trans (hb.mono h.be.size) }
theorem AH.set (h:AH T n w0 S wv W lv L w) {k:Nat} {x:Int} (hk:S[k]? =some x) (y:Int):AH T n w0 (S.set k y) wv W lv L (w.setCell ⟨w0.heap.size,k,none⟩ (.int .u64 y)):=by
 have kk:Kp [w0.heap.size] w (w.setCell ⟨w0.heap.size,k,none⟩ (.int .u64 y)):=Kp.rb (Kp.refl _ _) _ _
 have hB: ∀ j,j ∈ [w0.heap.size]→j<w0.heap.size+2:=fun j hj=>by simp at hj;omega
 refine { h with s:= ?_,t:=h.t.keep kk (by simp),wo:=own_keep h.wo kk hB,lo:=own_keep h.lo kk hB,sl:=by simp [h.sl],be:=h.be.trans (kp_below kk h.be.size (fun j hj=>by simp at hj;omega)) }
 rw [List.map_set]
 exact h.s.set (u:= .int .u64 x) (by rw [List.getElem?_map,hk];rfl) _
theorem AH.grow (h:AH T n w0 S wv W lv L w) {w2:World} {lv':Value} {x:Int} (hk:Kp lv.ownBlock.toList w w2) (ho:w2.ownsRow (w0.heap.size+2) 3 1 lv' (L.length+1) (L.map (.int .i64)++[.int .i64 x])) (hat:lv'.ownBlock=lv.ownBlock∨ ∃ H,lv'.ownBlock=some H∧w.heap.size≤H):AH T n w0 S wv W lv' (L++[x]) w2:=by
 have hB:=own_blk h.lo
 have hn: ∀ j,j<w0.heap.size+2→j ∉ lv.ownBlock.toList:=fun j h3 hm=>by have:=hB j hm;omega
 refine { h with s:=h.s.keep hk (hn _ (by omega)),t:=h.t.keep hk (hn _ (by omega)),wo:=own_away h.wo hk (fun j hj hm=>h.ne j (by simpa using hm) hj),lo:=by simpa using ho,ne:=fun j hj e=> ?_,be:=h.be.trans (kp_below hk h.be.size (fun j hj=>by have:=hB j hj;omega)) }
 rcases hat with ha|⟨H,ha,hH⟩
 ·rw [ha] at hj;exact h.ne j hj e
 ·rw [ha] at hj;have:=own_lt h.wo j e.symm;cases hj;omega
theorem AH.swap (h:AH T n w0 S wv W lv L w) {g c:Nat} (hv:wv= .slice (some ⟨g,0,none⟩) W.length c):AH T n w0 S lv L (.slice (some ⟨g,0,none⟩) 0 c) [] w:=by
 refine { h with wo:=h.lo,lo:= ?_,ne:=fun j hj e=> ?_ }
 ·have h1:=h.wo
  rw [hv] at h1
  exact own_none h1
 ·refine h.ne j e ?_
  rw [hv]
  exact hj
end
theorem Ow.ones_len {p:Cd.Pr} {i:Nat} {t:Int × Int}: ∀ (r S L:List Int) (y:List Int × List Int),Ow.ones p i t S L r=some y→L.length≤y.2.length
 |[],S,L,y,h=>by cases h;exact Nat.le_refl _
 |x::r,S,L,y,h=>by
  unfold Ow.ones at h
  rcases oif h with ⟨h0,h⟩|⟨_,h⟩
  ·obtain ⟨z,h1,h2⟩:=obind h
   refine Nat.le_trans ?_ (Ow.ones_len r z.1 z.2 y h2)
   obtain ⟨a,_,h1⟩:=obind h1
   obtain ⟨b,_,h1⟩:=obind h1
   rcases oif h1 with ⟨_,h1⟩|⟨_,h1⟩
   ·cases h1;exact Nat.le_refl _
   ·cases h1;simp
  ·cases h
theorem Ow.wave_len {p:Cd.Pr} {NX:List (List Int)} {T:List (Int × Int)}: ∀ (r S L:List Int) (y:List Int × List Int),Ow.wave p NX T S L r=some y→L.length≤y.2.length
 |[],S,L,y,h=>by cases h;exact Nat.le_refl _
 |x::r,S,L,y,h=>by
  unfold Ow.wave at h
  rcases oif h with ⟨h0,h⟩|⟨_,h⟩
  ·obtain ⟨nx,_,h⟩:=obind h
   obtain ⟨t,_,h⟩:=obind h
   obtain ⟨z,h1,h2⟩:=obind h
   exact Nat.le_trans (Ow.ones_len _ _ _ _ h1) (Ow.wave_len r z.1 z.2 y h2)
  ·cases h
theorem Tryz.infoSet:(Tryz.prog.info? 121).map (fun i=>(i.zero,i.size,i.bytes))=some (some (.int .u64 0),1,8):=by kernel_rfl
theorem made_zero (n k:Nat) (h:k<n):(madeCells #[Value.int .u64 0] n)[k]? =some (.int .u64 0):=by
 unfold madeCells
 rw [Array.getElem?_map]
 simp [h,Nat.mod_one]
theorem make_sets (n:Nat) (hn:n≤3000): ∃ Z:Array Value,(∀ k,k<n→Z[k]? =some (.int .u64 0))∧ ∀ w:World,(Instr.makeSlice 118 (.int .i64 (n:Int)) (.int .i64 (n:Int))).run Tryz.prog w= .ok (.slice (some ⟨w.heap.size,0,none⟩) n n) (w.alloc (.cells Z 121)):=by
 obtain ⟨i0,hi,hz0,hz1,hz2⟩:=info_parts Tryz.infoSet
 refine ⟨madeCells #[Value.int .u64 0] n,made_zero n,fun w=> ?_⟩
 have:=run_make (P:=Tryz.prog) w 118 121 i0 (.int .u64 0) Tryz.underlying118 hi hz0 .i64 .i64 (n:Int) (n:Int) (by omega) (Int.le_refl _) (by rw [hz2];omega) (by omega)
 rw [hz1] at this
 simpa [Value.cells] using this
end Go.Proofs.YteeocekjekclbaaGreatDoor
