import Derived.Test.YtcdcoiobpbdmpaaGreatDoorMbd
import Derived.Deep.RegionHeld3
import Derived.BigQuiet
import Derived.Deep.AppendLies
namespace Go.Proofs.YtcdcoiobpbdmpaaGreatDoor
open Go.RowKit Go.Maps Go.ChangeMaps
theorem kUsedCodeC_any (b:UInt8) (w:World):
  Calls Tryz.prog 156 #[.string (bs [b])] w fun e w'=>e= .returned (.func (.func 157) #[] #[.pointer (some ⟨w.heap.size,0,none⟩)])∧w'=w.alloc (.cells #[.string (bs [b])] 9):=by
 have hmf: ∀ (fn:Fn) (first cap:Array Value) (w:World),(Instr.makeFunc fn first cap).run Tryz.prog w= .ok (.func fn first cap) w:=fun _ _ _ _=>rfl
 go_enter Tryz.func156,Tryz.ntmps156
 go_wp2
 go_ret
 exact ⟨rfl,rfl⟩
def UsT (d:Int):Prop:= ∀ (c:Kg) (w:World) (at':Int) (A B T:List UInt8) (N:Int) (E body els:List Sx.Tr) (uE uB uL vv:Value) (bd ns:List Kn.Nv) (t:Nat),A.length≤12→B.length≤12→Kn.Sb ns bd→KS c w vv bd (Kn.fkn ns bd) t→
 Calls Tryz.prog 135 #[.pointer (some ⟨c.g,0,none⟩),.agg #[.int .i64 d,.int .i64 at',.string (bs A),.string (bs B),.string (bs T),.int .i64 N,uE,uB,uL]] w fun e w'=>e= .returned (.int .i64 (Kn.usedF ns (Sx.tS d at' A B T N E body els)))∧Kp [] w w'
set_option maxRecDepth 100000 in
set_option maxHeartbeats 1000000 in
theorem used_1:UsT 1:=by
 intro c w at' A B T N E body els uE uB uL vv bd ns t hA hB hs h
 have e1:Kn.usedF ns (Sx.tS 1 at' A B T N E body els)=0:=rfl
 rw [e1]
 clear h
 go_enter Tryz.func135,Tryz.ntmps135
 go_wp2
 go_ret
 exact ⟨rfl,(Kp.refl _ _).alloc _⟩
set_option maxRecDepth 100000 in
set_option maxHeartbeats 1000000 in
theorem used_2:UsT 2:=by
 intro c w at' A B T N E body els uE uB uL vv bd ns t hA hB hs h
 have e1:Kn.usedF ns (Sx.tS 2 at' A B T N E body els)=Kn.mst ns A 105:=rfl
 rw [e1]
 have H:=hide h
 have SB:=hide hs
 have H1:=hide (fun w=>kUsedCodeC_any 105 w)
 have H2:=hide (fun w' x (hk:Kp [] w w') hx=>kCode_pre c w' vv bd ns t A 105 x (H.out.kp hk) SB.out (by omega) hx)
 clear h hs
 go_enter Tryz.func135,Tryz.ntmps135
 go_wp2
 go_region_held3 (fun w'=>w'.cell? ⟨w.heap.size,2,none⟩=some (.string (bs A))) ((first|assumption|go_keep))
  ((first|(go_at_call 156;refine (H1.out _).mono ?_;rintro e w2 ⟨rfl,rfl⟩)|(go_at_call 158;refine (H2.out _ _ (by exact ((((Kp.refl _ _).alloc _).alloc _).drewN 1)) (by simp [go_sem])).mono ?_;rintro e w2 ⟨rfl,k2⟩;have K2:=hide ((((((Kp.refl [] w).alloc _).alloc _).drewN 1)).trans k2);have s2:w2.cell? ⟨w.heap.size,2,none⟩=some (.string (bs A)):=k2.some (by simp [go_sem]) (by simp);clear k2)))
 all_goals
  go_wp2
  go_ret
  exact ⟨rfl,K2.out⟩
set_option maxRecDepth 100000 in
set_option maxHeartbeats 1000000 in
theorem used_3:UsT 3:=by
 intro c w at' A B T N E body els uE uB uL vv bd ns t hA hB hs h
 have e1:Kn.usedF ns (Sx.tS 3 at' A B T N E body els)=0:=rfl
 rw [e1]
 clear h
 go_enter Tryz.func135,Tryz.ntmps135
 go_wp2
 go_ret
 exact ⟨rfl,(Kp.refl _ _).alloc _⟩
set_option maxRecDepth 100000 in
set_option maxHeartbeats 1000000 in
theorem used_4:UsT 4:=by
 intro c w at' A B T N E body els uE uB uL vv bd ns t hA hB hs h
 have e1:Kn.usedF ns (Sx.tS 4 at' A B T N E body els)=0:=rfl
 rw [e1]
 clear h
 go_enter Tryz.func135,Tryz.ntmps135
 go_wp2
 go_ret
 exact ⟨rfl,(Kp.refl _ _).alloc _⟩
set_option maxRecDepth 100000 in
set_option maxHeartbeats 1000000 in
theorem used_5:UsT 5:=by
 intro c w at' A B T N E body els uE uB uL vv bd ns t hA hB hs h
 have e1:Kn.usedF ns (Sx.tS 5 at' A B T N E body els)=Kn.mst ns B 115:=rfl
 rw [e1]
 have H:=hide h
 have SB:=hide hs
 have H1:=hide (fun w=>kUsedCodeC_any 115 w)
 have H2:=hide (fun w' x (hk:Kp [] w w') hx=>kCode_pre c w' vv bd ns t B 115 x (H.out.kp hk) SB.out (by omega) hx)
 clear h hs
 go_enter Tryz.func135,Tryz.ntmps135
 go_wp2
 go_region_held3 (fun w'=>w'.cell? ⟨w.heap.size,3,none⟩=some (.string (bs B))) ((first|assumption|go_keep))
  ((first|(go_at_call 156;refine (H1.out _).mono ?_;rintro e w2 ⟨rfl,rfl⟩)|(go_at_call 158;refine (H2.out _ _ (by exact ((((Kp.refl _ _).alloc _).alloc _).drewN 1)) (by simp [go_sem])).mono ?_;rintro e w2 ⟨rfl,k2⟩;have K2:=hide ((((((Kp.refl [] w).alloc _).alloc _).drewN 1)).trans k2);have s2:w2.cell? ⟨w.heap.size,3,none⟩=some (.string (bs B)):=k2.some (by simp [go_sem]) (by simp);clear k2)))
 all_goals
  go_wp2
  go_ret
  exact ⟨rfl,K2.out⟩
set_option maxRecDepth 100000 in
set_option maxHeartbeats 1000000 in
theorem used_6:UsT 6:=by
 intro c w at' A B T N E body els uE uB uL vv bd ns t hA hB hs h
 have e1:Kn.usedF ns (Sx.tS 6 at' A B T N E body els)=Kn.mst ns A 115:=rfl
 rw [e1]
 have H:=hide h
 have SB:=hide hs
 have H1:=hide (fun w=>kUsedCodeC_any 115 w)
 have H2:=hide (fun w' x (hk:Kp [] w w') hx=>kCode_pre c w' vv bd ns t A 115 x (H.out.kp hk) SB.out (by omega) hx)
 clear h hs
 go_enter Tryz.func135,Tryz.ntmps135
 go_wp2
 go_region_held3 (fun w'=>w'.cell? ⟨w.heap.size,2,none⟩=some (.string (bs A))) ((first|assumption|go_keep))
  ((first|(go_at_call 156;refine (H1.out _).mono ?_;rintro e w2 ⟨rfl,rfl⟩)|(go_at_call 158;refine (H2.out _ _ (by exact ((((Kp.refl _ _).alloc _).alloc _).drewN 1)) (by simp [go_sem])).mono ?_;rintro e w2 ⟨rfl,k2⟩;have K2:=hide ((((((Kp.refl [] w).alloc _).alloc _).drewN 1)).trans k2);have s2:w2.cell? ⟨w.heap.size,2,none⟩=some (.string (bs A)):=k2.some (by simp [go_sem]) (by simp);clear k2)))
 all_goals
  go_wp2
  go_ret
  exact ⟨rfl,K2.out⟩
set_option maxRecDepth 100000 in
set_option maxHeartbeats 1000000 in
theorem used_7:UsT 7:=by
 intro c w at' A B T N E body els uE uB uL vv bd ns t hA hB hs h
 have e1:Kn.usedF ns (Sx.tS 7 at' A B T N E body els)=Kn.mst ns A 115:=rfl
 rw [e1]
 have H:=hide h
 have SB:=hide hs
 have H1:=hide (fun w=>kUsedCodeC_any 115 w)
 have H2:=hide (fun w' x (hk:Kp [] w w') hx=>kCode_pre c w' vv bd ns t A 115 x (H.out.kp hk) SB.out (by omega) hx)
 clear h hs
 go_enter Tryz.func135,Tryz.ntmps135
 go_wp2
 go_region_held3 (fun w'=>w'.cell? ⟨w.heap.size,2,none⟩=some (.string (bs A))) ((first|assumption|go_keep))
  ((first|(go_at_call 156;refine (H1.out _).mono ?_;rintro e w2 ⟨rfl,rfl⟩)|(go_at_call 158;refine (H2.out _ _ (by exact ((((Kp.refl _ _).alloc _).alloc _).drewN 1)) (by simp [go_sem])).mono ?_;rintro e w2 ⟨rfl,k2⟩;have K2:=hide ((((((Kp.refl [] w).alloc _).alloc _).drewN 1)).trans k2);have s2:w2.cell? ⟨w.heap.size,2,none⟩=some (.string (bs A)):=k2.some (by simp [go_sem]) (by simp);clear k2)))
 all_goals
  go_wp2
  go_ret
  exact ⟨rfl,K2.out⟩
set_option maxRecDepth 100000 in
set_option maxHeartbeats 1000000 in
theorem used_8:UsT 8:=by
 intro c w at' A B T N E body els uE uB uL vv bd ns t hA hB hs h
 have e1:Kn.usedF ns (Sx.tS 8 at' A B T N E body els)=Kn.mst ns A 114:=rfl
 rw [e1]
 have H:=hide h
 have SB:=hide hs
 have H1:=hide (fun w=>kUsedCodeC_any 114 w)
 have H2:=hide (fun w' x (hk:Kp [] w w') hx=>kCode_pre c w' vv bd ns t A 114 x (H.out.kp hk) SB.out (by omega) hx)
 clear h hs
 go_enter Tryz.func135,Tryz.ntmps135
 go_wp2
 go_region_held3 (fun w'=>w'.cell? ⟨w.heap.size,2,none⟩=some (.string (bs A))) ((first|assumption|go_keep))
  ((first|(go_at_call 156;refine (H1.out _).mono ?_;rintro e w2 ⟨rfl,rfl⟩)|(go_at_call 158;refine (H2.out _ _ (by exact ((((Kp.refl _ _).alloc _).alloc _).drewN 1)) (by simp [go_sem])).mono ?_;rintro e w2 ⟨rfl,k2⟩;have K2:=hide ((((((Kp.refl [] w).alloc _).alloc _).drewN 1)).trans k2);have s2:w2.cell? ⟨w.heap.size,2,none⟩=some (.string (bs A)):=k2.some (by simp [go_sem]) (by simp);clear k2)))
 all_goals
  go_wp2
  go_ret
  exact ⟨rfl,K2.out⟩
set_option maxRecDepth 100000 in
set_option maxHeartbeats 1000000 in
theorem used_9:UsT 9:=by
 intro c w at' A B T N E body els uE uB uL vv bd ns t hA hB hs h
 have e1:Kn.usedF ns (Sx.tS 9 at' A B T N E body els)=Kn.mst ns A 114:=rfl
 rw [e1]
 have H:=hide h
 have SB:=hide hs
 have H1:=hide (fun w=>kUsedCodeC_any 114 w)
 have H2:=hide (fun w' x (hk:Kp [] w w') hx=>kCode_pre c w' vv bd ns t A 114 x (H.out.kp hk) SB.out (by omega) hx)
 clear h hs
 go_enter Tryz.func135,Tryz.ntmps135
 go_wp2
 go_region_held3 (fun w'=>w'.cell? ⟨w.heap.size,2,none⟩=some (.string (bs A))) ((first|assumption|go_keep))
  ((first|(go_at_call 156;refine (H1.out _).mono ?_;rintro e w2 ⟨rfl,rfl⟩)|(go_at_call 158;refine (H2.out _ _ (by exact ((((Kp.refl _ _).alloc _).alloc _).drewN 1)) (by simp [go_sem])).mono ?_;rintro e w2 ⟨rfl,k2⟩;have K2:=hide ((((((Kp.refl [] w).alloc _).alloc _).drewN 1)).trans k2);have s2:w2.cell? ⟨w.heap.size,2,none⟩=some (.string (bs A)):=k2.some (by simp [go_sem]) (by simp);clear k2)))
 all_goals
  go_wp2
  go_ret
  exact ⟨rfl,K2.out⟩
set_option maxRecDepth 100000 in
set_option maxHeartbeats 1000000 in
theorem used_10:UsT 10:=by
 intro c w at' A B T N E body els uE uB uL vv bd ns t hA hB hs h
 have e1:Kn.usedF ns (Sx.tS 10 at' A B T N E body els)=0:=rfl
 rw [e1]
 clear h
 go_enter Tryz.func135,Tryz.ntmps135
 go_wp2
 go_ret
 exact ⟨rfl,(Kp.refl _ _).alloc _⟩
set_option maxRecDepth 100000 in
set_option maxHeartbeats 1000000 in
theorem used_11:UsT 11:=by
 intro c w at' A B T N E body els uE uB uL vv bd ns t hA hB hs h
 have e1:Kn.usedF ns (Sx.tS 11 at' A B T N E body els)=Kn.mst ns B 114:=rfl
 rw [e1]
 have H:=hide h
 have SB:=hide hs
 have H1:=hide (fun w=>kUsedCodeC_any 114 w)
 have H2:=hide (fun w' x (hk:Kp [] w w') hx=>kCode_pre c w' vv bd ns t B 114 x (H.out.kp hk) SB.out (by omega) hx)
 clear h hs
 go_enter Tryz.func135,Tryz.ntmps135
 go_wp2
 go_region_held3 (fun w'=>w'.cell? ⟨w.heap.size,3,none⟩=some (.string (bs B))) ((first|assumption|go_keep))
  ((first|(go_at_call 156;refine (H1.out _).mono ?_;rintro e w2 ⟨rfl,rfl⟩)|(go_at_call 158;refine (H2.out _ _ (by exact ((((Kp.refl _ _).alloc _).alloc _).drewN 1)) (by simp [go_sem])).mono ?_;rintro e w2 ⟨rfl,k2⟩;have K2:=hide ((((((Kp.refl [] w).alloc _).alloc _).drewN 1)).trans k2);have s2:w2.cell? ⟨w.heap.size,3,none⟩=some (.string (bs B)):=k2.some (by simp [go_sem]) (by simp);clear k2)))
 all_goals
  go_wp2
  go_ret
  exact ⟨rfl,K2.out⟩
set_option maxRecDepth 100000 in
set_option maxHeartbeats 1000000 in
theorem used_12:UsT 12:=by
 intro c w at' A B T N E body els uE uB uL vv bd ns t hA hB hs h
 have e1:Kn.usedF ns (Sx.tS 12 at' A B T N E body els)=Kn.mst ns B 114:=rfl
 rw [e1]
 have H:=hide h
 have SB:=hide hs
 have H1:=hide (fun w=>kUsedCodeC_any 114 w)
 have H2:=hide (fun w' x (hk:Kp [] w w') hx=>kCode_pre c w' vv bd ns t B 114 x (H.out.kp hk) SB.out (by omega) hx)
 clear h hs
 go_enter Tryz.func135,Tryz.ntmps135
 go_wp2
 go_region_held3 (fun w'=>w'.cell? ⟨w.heap.size,3,none⟩=some (.string (bs B))) ((first|assumption|go_keep))
  ((first|(go_at_call 156;refine (H1.out _).mono ?_;rintro e w2 ⟨rfl,rfl⟩)|(go_at_call 158;refine (H2.out _ _ (by exact ((((Kp.refl _ _).alloc _).alloc _).drewN 1)) (by simp [go_sem])).mono ?_;rintro e w2 ⟨rfl,k2⟩;have K2:=hide ((((((Kp.refl [] w).alloc _).alloc _).drewN 1)).trans k2);have s2:w2.cell? ⟨w.heap.size,3,none⟩=some (.string (bs B)):=k2.some (by simp [go_sem]) (by simp);clear k2)))
 all_goals
  go_wp2
  go_ret
  exact ⟨rfl,K2.out⟩
set_option maxRecDepth 100000 in
set_option maxHeartbeats 1000000 in
theorem used_13:UsT 13:=by
 intro c w at' A B T N E body els uE uB uL vv bd ns t hA hB hs h
 have e1:Kn.usedF ns (Sx.tS 13 at' A B T N E body els)=0:=rfl
 rw [e1]
 clear h
 go_enter Tryz.func135,Tryz.ntmps135
 go_wp2
 go_ret
 exact ⟨rfl,(Kp.refl _ _).alloc _⟩
set_option maxRecDepth 100000 in
set_option maxHeartbeats 1000000 in
theorem used_14:UsT 14:=by
 intro c w at' A B T N E body els uE uB uL vv bd ns t hA hB hs h
 have e1:Kn.usedF ns (Sx.tS 14 at' A B T N E body els)=0:=rfl
 rw [e1]
 clear h
 go_enter Tryz.func135,Tryz.ntmps135
 go_wp2
 go_ret
 exact ⟨rfl,(Kp.refl _ _).alloc _⟩
theorem used_any (d:Int) (h1:1≤d) (h2:d≤14):UsT d:=by
 obtain ⟨k,rfl⟩: ∃ k:Nat,d=k:=⟨d.toNat,by omega⟩
 have h:k=1∨k=2∨k=3∨k=4∨k=5∨k=6∨k=7∨k=8∨k=9∨k=10∨k=11∨k=12∨k=13∨k=14:=by omega
 rcases h with rfl|rfl|rfl|rfl|rfl|rfl|rfl|rfl|rfl|rfl|rfl|rfl|rfl|rfl
 ·exact used_1
 ·exact used_2
 ·exact used_3
 ·exact used_4
 ·exact used_5
 ·exact used_6
 ·exact used_7
 ·exact used_8
 ·exact used_9
 ·exact used_10
 ·exact used_11
 ·exact used_12
 ·exact used_13
 ·exact used_14
theorem setBlock_cell (w:World) (b:Nat) (o:Obj) (a:Addr) (h:a.block ≠ b):(setBlock w b o).cell? a=w.cell? a:=by
 refine World.cell?_of_block (w:=w) ?_
 simp [setBlock,Ne.symm h]
theorem setBlock_frozen (w:World) (b:Nat) (o:Obj) (a:Addr) (h:a.block ≠ b):(setBlock w b o).frozen? a=w.frozen? a:=by
 refine World.frozen?_of_block (w:=w) ?_
 simp [setBlock,Ne.symm h]
theorem setBlock_other (w:World) (b:Nat) (o:Obj) (k:Nat) (h:k ≠ b):(setBlock w b o).heap[k]? =w.heap[k]? :=by
 simp [setBlock,Ne.symm h]
theorem setBlock_size (w:World) (b:Nat) (o:Obj):(setBlock w b o).heap.size=w.heap.size:=by simp [setBlock]
theorem Kp.setNew {S:List Nat} {w w':World} (h:Kp S w w') {b:Nat} (hb:w.heap.size≤b) (o:Obj):Kp S w (setBlock w' b o):=
 ⟨h.os,h.tape,h.output,by rw [setBlock_size];exact h.size,fun k hk hn=>(setBlock_other w' b o k (by omega)).trans (h.block k hk hn)⟩
namespace Kn
theorem isIn_app (a b:List Nv) (nm:List UInt8):isIn (a++b) nm=(isIn a nm || isIn b nm):=by unfold isIn;rw [List.any_append]
theorem isIn_one (v:Nv) (nm:List UInt8):isIn [v] nm=decide (v.1=nm):=by unfold isIn;by_cases h:v.1=nm<;> simp [h]
def onc (V:List Nv) (nm:List UInt8):Option Value:=if isIn V nm then some (.int .i64 1) else none
theorem onc_snoc (V:List Nv) (v:Nv):upd (onc V) v.1 (.int .i64 1)=onc (V++[v]):=by
 funext x
 unfold upd onc
 rw [isIn_app,isIn_one]
 by_cases h:x=v.1
 ·rw [if_pos h,if_pos (by simp [h])]
 ·rw [if_neg h]
  have:decide (v.1=x)=false:=by simpa using fun e=>h e.symm
  rw [this,Bool.or_false]
end Kn
set_option maxRecDepth 100000 in
set_option maxHeartbeats 2000000 in
theorem kRepeats_any (c:Kg) (w:World) (vv:Value) (bd:List Kn.Nv) (fk:List UInt8→Option Value) (t:Nat) (V:List Kn.Nv) (a:Option Addr) (cap:Nat) (h:KS c w vv bd fk t) (hV:VR w (.slice a V.length cap) V) (hl:V.length≤1000) (hz: ∀ v,v ∈ V→v.1.length≤1000000):
  Calls Tryz.prog 41 #[.pointer (some ⟨c.g,0,none⟩),.slice a V.length cap] w fun e w'=>e= .returned (.bool (Kn.twiceP bd V))∧Kp [] w w':=by
 have H:=hide h
 have hmm:= @run_makeMap Tryz.prog
 have hlt:=h.lt
 have M0:=hide (MV.made w)
 clear h
 go_enter Tryz.func41,Tryz.ntmps41
 go_wp2
 go_loopw [13] (fun iv wr=> ∃ i:Nat,i≤V.length∧iv= .int .i64 i∧Hid (MV wr w.heap.size i (Kn.onc (V.take i)))∧Hid (Kp [] w wr)∧Hid (Kn.twiceP bd V=Kn.twiceP (bd++V.take i) (V.drop i))) (fun iv _=>V.length - (intOf iv).toNat)
 case atStart=>exact ⟨0,Nat.zero_le _,rfl,M0,hide ((Kp.refl _ _).alloc _),hide (by simp)⟩
 case round=>
  obtain ⟨i,hil,rfl,HM,HK,HT⟩:=hrel
  by_cases hlt2:i<V.length
  ·have d1:decide ((i:Int)<(V.length:Int))=true:=by simp;omega
   obtain ⟨x,hx⟩: ∃ x,V[i]? =some x:=⟨_,List.getElem?_eq_getElem hlt2⟩
   obtain ⟨a',cap',e1,hVc⟩:=hV
   injection e1 with ea eb ec
   subst a'
   subst cap'
   obtain ⟨b,o,rfl,hVd⟩:=hVc (fun e=>by rw [e] at hx;cases hx)
   obtain ⟨y0,y1⟩:=hVd i x hx
   have z0:=HK.out.some y0 (by simp)
   have z1:=HK.out.some y1 (by simp)
   have hxl:=hz x (List.mem_of_getElem? hx)
   have hk0:(0:Int)≤(i:Int):=by omega
   have hk1:(i:Int)<(V.length:Int):=by omega
   have hwr:w.heap.size<wr.heap.size:=HM.out.lt
   have HW1:Hid (Kp [] wr (wr.alloc (.cells #[.string (bs x.1),.string (bs x.2)] 98))):=hide ((Kp.refl _ _).alloc _)
   have M1:=HM.out.of_block (HW1.out.block _ hwr (by simp))
   have HL0:=M1.look0 x.1 hxl Tryz.underlying79 (Tryz.zeroInt _)
   have HD:=hide (drop_nth hx)
   have HTK:Hid (V.take (i+1)=V.take i++[x]):=hide (by rw [List.take_add_one,hx];rfl)
   have HT2:Hid (Kn.twiceP bd V=((Kn.isIn bd x.1 || Kn.isIn (V.take i) x.1) || Kn.twiceP (bd++V.take (i+1)) (V.drop (i+1)))):=hide (by
    rw [HT.out,HD.out,HTK.out,←List.append_assoc,←Kn.isIn_app]
    rfl)
   clear y0 y1 hVc hVd
   obtain ⟨k0,e2,hk2,e5⟩: ∃ k0:Int,(Kn.onc (V.take i) x.1).getD (.int .i64 0)= .int .i64 k0∧wrap64 (k0+1)=k0+1∧decide (1<k0+1)=Kn.isIn (V.take i) x.1:=by
    unfold Kn.onc
    cases Kn.isIn (V.take i) x.1 with
    |true=>exact ⟨1,rfl,by simp [wrap64],by decide⟩
    |false=>exact ⟨0,rfl,by simp [wrap64],by decide⟩
   rw [e2] at HL0
   obtain ⟨ob,hst,M2⟩:=M1.store x.1 hxl (.int .i64 (k0+1)) (by omega) Tryz.underlying79
   have HK2:Hid (Kp [] w (setBlock (wr.alloc (.cells #[.string (bs x.1),.string (bs x.2)] 98)) w.heap.size ob)):=hide ((HK.out.alloc _).setNew (Nat.le_refl _) _)
   have HKS:=H.out.kp HK2.out
   have u0:(setBlock (wr.alloc (.cells #[.string (bs x.1),.string (bs x.2)] 98)) w.heap.size ob).cell? ⟨wr.heap.size,0,none⟩=some (.string (bs x.1)):=(setBlock_cell _ _ _ _ (by show wr.heap.size ≠ _;omega)).trans (by simp [go_sem])
   have c1:=HKS.c1
   have HB:=fun n=>(HKS.mb.of_block (w':=(setBlock (wr.alloc (.cells #[.string (bs x.1),.string (bs x.2)] 98)) w.heap.size ob).drewN n) rfl).look x.1 hxl Tryz.underlying79 (Tryz.zeroInt _)
   have HL1:=fun n=>(M2.of_block (w':=(setBlock (wr.alloc (.cells #[.string (bs x.1),.string (bs x.2)] 98)) w.heap.size ob).drewN n) rfl).look0 x.1 hxl Tryz.underlying79 (Tryz.zeroInt _)
   have e3:upd (Kn.onc (V.take i)) x.1 (.int .i64 (k0+1)) x.1=some (.int .i64 (k0+1)):=by unfold upd;rw [if_pos rfl]
   rw [e3] at HL1
   have M2':Hid (Kn.isIn (V.take i) x.1=false→MV (setBlock (wr.alloc (.cells #[.string (bs x.1),.string (bs x.2)] 98)) w.heap.size ob) w.heap.size (i+1) (Kn.onc (V.take (i+1)))):=hide (fun hf=>by
    have:k0=0:=by unfold Kn.onc at e2;rw [hf] at e2;simpa using e2.symm
    subst this
    rw [HTK.out,←Kn.onc_snoc];exact M2)
   clear M2 M1 HKS HTK e2
   generalize setBlock (wr.alloc (.cells #[.string (bs x.1),.string (bs x.2)] 98)) w.heap.size ob=W2 at *
   cases hib:Kn.isIn bd x.1 with
   |true=>
    obtain ⟨k,e4⟩: ∃ k:Nat,Kn.fb bd x.1=some (.int .i64 k):=by
     unfold Kn.fb
     rw [←Kn.ix_isIn] at hib
     obtain ⟨k,hk⟩:=Option.isSome_iff_exists.1 hib
     exact ⟨k,by rw [hk];rfl⟩
    rw [e4] at HB
    go_wp2
    go_quiet (fail)
    go_wp2
    go_ret
    refine ⟨?_,HK2.out.drewN _⟩
    rw [HT2.out,hib]
    rfl
   |false=>
    have e4:Kn.fb bd x.1=none:=by
     unfold Kn.fb
     rw [←Kn.ix_isIn] at hib
     cases hh:Kn.ix bd x.1 with
     |none=>rfl
     |some k=>rw [hh] at hib;cases hib
    rw [e4] at HB
    cases hin:Kn.isIn (V.take i) x.1 with
    |true=>
     rw [hin] at e5
     have e6:=HT2.out
     rw [hib,hin] at e6
     clear hib hin
     go_wp2
     go_quiet (fail)
     go_wp2
     go_ret
     refine ⟨?_,HK2.out.drewN _⟩
     rw [e6]
     rfl
    |false=>
     rw [hin] at e5
     have e6:=HT2.out
     have M3:=hide (M2'.out hin)
     rw [hib,hin] at e6
     have E6:=hide e6
     clear hib hin e6
     go_wp2
     go_quiet (fail)
     go_wp2
     go_roundw
     case rel=>exact ⟨i+1,by omega,by go_num,hide (M3.out.of_block rfl),hide (HK2.out.drewN _),hide (by rw [E6.out];rfl)⟩
     case measure=>simp [intOf];omega
  ·obtain rfl:i=V.length:=by omega
   have d1:decide ((V.length:Int)<(V.length:Int))=false:=by simp
   go_wp2
   go_ret
   refine ⟨?_,HK.out⟩
   rw [HT.out,List.drop_length]
   rfl
end Go.Proofs.YtcdcoiobpbdmpaaGreatDoor
namespace Go.Proofs.YtcdcoiobpbdmpaaGreatDoor
open Go.RowKit Go.Maps Go.ChangeMaps
theorem Tryz.infoStr:(Tryz.prog.info? 9).map (fun i=>(i.zero,i.size,i.bytes))=some (some (.string ⟨#[]⟩),1,16):=by kernel_rfl
theorem Tryz.zeroStage (w:World):(zeroValue 53).run Tryz.prog w= .ok (.agg #[.string ⟨#[]⟩,.int .i64 0,.slice none 0 0,.slice none 0 0]) w:=by kernel_rfl
def TR (w:World) (v:Value) (l:List (List UInt8)):Prop:=
 ∃ a c,v= .slice a l.length c∧(l ≠ []→ ∃ g o,a=some ⟨g,o,none⟩∧ ∀ (k:Nat) x,l[k]? =some x→w.cell? ⟨g,o+k,none⟩=some (.string (bs x)))
def tsc (l:List (List UInt8)):List Value:=l.map fun x=> .string (bs x)
theorem tr_own {w:World} {B:Nat} {v:Value} {l:List (List UInt8)} (h:w.ownsRow B 9 1 v l.length (tsc l)):TR w v l:=by
 rcases h.2 with ⟨hv,h0⟩|⟨g,cap,cur,hv,hb,hg,hnc,hcm,_,_⟩
 ·refine ⟨none,0,by rw [hv,h0],fun hn=> ?_⟩
  exact absurd (List.length_eq_zero_iff.1 h0) hn
 ·refine ⟨_,cap,hv,fun _=>⟨g,0,rfl,fun k x hx=> ?_⟩⟩
  have f1:=h.cells (g:=g) (by rw [hv];rfl) k (.string (bs x)) (by unfold tsc;rw [List.getElem?_map,hx];rfl)
  have ea: ∀ j:Nat,(⟨g,0,none⟩:Addr).add j=⟨g,j,none⟩:=fun j=>by unfold Addr.add;split<;> simp_all
  rw [ea] at f1
  rw [Nat.zero_add]
  exact f1
theorem tnew (w:World) (x:Value) (t:TypeId): ∀ (j:Nat) u,[x][j]? =some u→(w.alloc (.cells #[x] t)).cell? ((⟨w.heap.size,0,none⟩:Addr).add j)=some u:=by
 intro j u hu
 match j,hu with
 |0,hu=>simp at hu;subst hu;simp [go_sem,Addr.add]
theorem tsc_app (a:List (List UInt8)) (x:List UInt8):tsc (a++[x])=tsc a++[.string (bs x)]:=by unfold tsc;simp
structure ABv (c:Kg) (w:World) (P:Nat→Prop) (ab:List Sx.Tr):Prop where
 no: ∀ nm,Kn.abv ab nm=none→c.fa nm=none
 yes: ∀ nm g,Kn.abv ab nm=some g→ ∃ nm' at' uP aB nB cB,c.fa nm=some (.agg #[.string (bs nm'),.int .i64 at',uP,.slice aB nB cB])∧Sl RP w P (Sx.gP g) uP
theorem ABv.keep {c:Kg} {w w':World} {P:Nat→Prop} {ab:List Sx.Tr} {S:List Nat} (h:ABv c w P ab) (hk:Kp S w w') (hS: ∀ k,k ∈ S→ ¬ P k):ABv c w' P ab:=
 ⟨h.no,fun nm g hg=>by
  obtain ⟨nm',at',uP,aB,nB,cB,h1,h2⟩:=h.yes nm g hg
  exact ⟨nm',at',uP,aB,nB,cB,h1,h2.keep hk hS (fun d c h=>h)⟩⟩
def WbT:Prop:= ∀ (c:Kg) (w:World) (P:Nat→Prop) (ab:List Sx.Tr) (d at':Int) (A B T:List UInt8) (N:Int) (E:List Sx.Tr) (aE:Option Addr) (cE:Nat) (uB uL vv:Value) (bd ns:List Kn.Nv) (t:Nat),A.length≤12→E.length≤6→(∀ nm g,Kn.abv ab nm=some g→(Sx.gP g).length≤1000000)→ABv c w P ab→KS c w vv bd (Kn.fkn ns bd) t→
 Calls Tryz.prog 159 #[.pointer (some ⟨c.g,0,none⟩),.agg #[.int .i64 d,.int .i64 at',.string (bs A),.string (bs B),.string (bs T),.int .i64 N,.slice aE E.length cE,uB,uL]] w fun e w'=> ∃ tv k,e= .returned (.tuple #[tv,.int .i64 k])∧Kp [] w w'∧
  match Kn.abv ab A with
  |none=>tv= .slice none 0 0∧k=12
  |some g=>if (Sx.gP g).length ≠ E.length then tv= .slice none 0 0∧k=15 else TR w' tv ((Sx.gP g).map fun p=>(Sx.pH p).2)∧k=0
set_option maxRecDepth 100000 in
set_option maxHeartbeats 2000000 in
theorem wantedBy_any:WbT:=by
 intro c w P ab d at' A B T N E aE cE uB uL vv bd ns t hA hE hg hab h
 have H:=hide h
 have HA:=hide hab
 have HL:=fun W (hk:Kp [] w W)=>(H.out.kp hk).ma.look A (by omega) Tryz.underlying78 (Tryz.zeroStage W)
 have c3:=h.c3
 have hlt:=h.lt
 clear h hab
 cases hav:Kn.abv ab A with
 |none=>
  have e1:=HA.out.no A hav
  rw [e1] at HL
  have HL1:=HL ((w.alloc (.cells #[.int .i64 d,.int .i64 at',.string (bs A),.string (bs B),.string (bs T),.int .i64 N,.slice aE E.length cE,uB,uL] 75)).drew) (((Kp.refl _ _).alloc _).drewN 1)
  have HL2:=HL (((w.alloc (.cells #[.int .i64 d,.int .i64 at',.string (bs A),.string (bs B),.string (bs T),.int .i64 N,.slice aE E.length cE,uB,uL] 75)).alloc (.cells #[.string ⟨#[]⟩,.int .i64 0,.slice none 0 0,.slice none 0 0] 53)).drew) ((((Kp.refl _ _).alloc _).alloc _).drewN 1)
  clear HL
  go_enter Tryz.func159,Tryz.ntmps159
  go_wp2
  go_region_held3 (fun w'=>w'.cell? ⟨w.heap.size,2,none⟩=some (.string (bs A))∧w'.cell? ⟨c.g,3,none⟩=some (.map (some c.ma))) ((first|exact ⟨by assumption,by assumption⟩|go_keep)) (fail)
  all_goals
   go_wp2
   go_ret2
   exact ⟨_,_,rfl,(((Kp.refl _ _).alloc _).alloc _).drewN 1,rfl,rfl⟩
 |some g=>
  obtain ⟨nm',a2,uP,aB,nB,cB,e1,hSl⟩:=HA.out.yes A g hav
  obtain ⟨aP,cP,rfl,-⟩:=id hSl
  have hgl:=hg A g hav
  rw [e1] at HL
  have HL1:=HL ((w.alloc (.cells #[.int .i64 d,.int .i64 at',.string (bs A),.string (bs B),.string (bs T),.int .i64 N,.slice aE E.length cE,uB,uL] 75)).drew) (((Kp.refl _ _).alloc _).drewN 1)
  have HL2:=HL (((w.alloc (.cells #[.int .i64 d,.int .i64 at',.string (bs A),.string (bs B),.string (bs T),.int .i64 N,.slice aE E.length cE,uB,uL] 75)).alloc (.cells #[.string ⟨#[]⟩,.int .i64 0,.slice none 0 0,.slice none 0 0] 53)).drew) ((((Kp.refl _ _).alloc _).alloc _).drewN 1)
  have HSl:=hide hSl
  clear HL hSl
  dsimp only
  by_cases hne:(Sx.gP g).length ≠ E.length
  ·simp only [if_pos hne]
   have q:((E.length:Int) !=((Sx.gP g).length:Int))=true:=by simp;omega
   clear hne
   go_enter Tryz.func159,Tryz.ntmps159
   go_wp2
   go_region_held3 (fun w'=>w'.cell? ⟨w.heap.size,2,none⟩=some (.string (bs A))∧w'.cell? ⟨c.g,3,none⟩=some (.map (some c.ma))) ((first|exact ⟨by assumption,by assumption⟩|go_keep)) (fail)
   all_goals
    go_wp2
    go_ret2
    exact ⟨_,_,rfl,(((Kp.refl _ _).alloc _).alloc _).drewN 1,rfl,rfl⟩
  ·simp only [if_neg hne]
   have q:((E.length:Int) !=((Sx.gP g).length:Int))=false:=by simp;omega
   obtain ⟨i0,hi0,hz0,hz1,hz2⟩:=info_parts Tryz.infoStr
   have hlE:(Sx.gP g).length≤6:=by omega
   have hTl:Hid ((((Sx.gP g).map fun p=>(Sx.pH p).2)).length=(Sx.gP g).length):=hide (by simp)
   clear hne
   go_enter Tryz.func159,Tryz.ntmps159
   go_wp2
   go_region_held3 (fun w'=>w'.cell? ⟨w.heap.size,2,none⟩=some (.string (bs A))∧w'.cell? ⟨c.g,3,none⟩=some (.map (some c.ma))) ((first|exact ⟨by assumption,by assumption⟩|go_keep)) (fail)
   all_goals
    go_wp2
    go_loopw [8,35] (fun tv iv wr=> ∃ i:Nat,i≤(Sx.gP g).length∧iv= .int .i64 i∧Hid (wr.ownsRow w.heap.size 9 1 tv i (tsc (((Sx.gP g).map fun p=>(Sx.pH p).2).take i)))∧Hid (Kp [] w wr)) (fun _ iv _=>(Sx.gP g).length - (intOf iv).toNat)
    case atStart=>exact ⟨0,Nat.zero_le _,rfl,hide ⟨rfl,.inl ⟨rfl,rfl⟩⟩,hide ((((Kp.refl _ _).alloc _).alloc _).drewN 1)⟩
    case round=>
     obtain ⟨i,hil,rfl,HO,HK⟩:=hrel
     by_cases hlt2:i<(Sx.gP g).length
     ·have d1:decide ((i:Int)<((Sx.gP g).length:Int))=true:=by simp;omega
      obtain ⟨b,off,nm1,T1,rfl,hd,m0,m1⟩:=(HSl.out.keep HK.out (by simp) (fun d c h=>h)).nth' i hlt2
      have HTK:Hid (((Sx.gP g).map fun p=>(Sx.pH p).2).take (i+1)=((Sx.gP g).map fun p=>(Sx.pH p).2).take i++[T1]):=hide (by rw [List.take_add_one,List.getElem?_map,hd];rfl)
      have hk0:(0:Int)≤(i:Int):=by omega
      have hk1:(i:Int)<((Sx.gP g).length:Int):=by omega
      have hsz:w.heap.size≤wr.heap.size:=HK.out.size
      clear hd
      go_wp2_with (at_builtin;refine wpList_append_lies _ rfl _ _ 124 rfl w.heap.size 9 i0 (.string ⟨#[]⟩) 1 16 Tryz.underlying124 hi0 hz0 hz1 hz2 rfl (by decide) _ _ _ rfl (by exact (HO.out.alloc _).alloc _) ⟨wr.heap.size+1,0,none⟩ 1 1 [.string (bs T1)] rfl rfl (by have:=tnew (wr.alloc (.cells #[.string (bs nm1),.string (bs T1)] 55)) (.string (bs T1)) 9;simpa using this) (by intro u hu;simp at hu;subst hu;rfl) (by decide) (by unfold maxLen;omega) (by omega) (by simp;omega) _ rfl ?_;intro gg cap2 w1 hown hgrow hat hlt1)
      have HO2:Hid (w1.ownsRow w.heap.size 9 1 (.slice (some ⟨gg,0,none⟩) (i+1) cap2) (i+1) (tsc (((Sx.gP g).map fun p=>(Sx.pH p).2).take (i+1)))):=hide (by rw [HTK.out,tsc_app];exact hown)
      have HK2:Hid (Kp [] w w1):=hide (((HK.out.alloc _).alloc _).grown hgrow (fun k hk=> .inl (HO.out.lt k hk).1))
      clear hown hgrow hat
      go_wp2
      go_roundw
      case rel=>exact ⟨i+1,by omega,by go_num,HO2,HK2⟩
      case measure=>simp [intOf];omega
     ·obtain rfl:i=(Sx.gP g).length:=by omega
      have d1:decide (((Sx.gP g).length:Int)<((Sx.gP g).length:Int))=false:=by simp
      have HO':Hid (wr.ownsRow w.heap.size 9 1 u8 ((Sx.gP g).map fun p=>(Sx.pH p).2).length (tsc ((Sx.gP g).map fun p=>(Sx.pH p).2))):=hide (by
       have:=HO.out
       rw [List.take_of_length_le (by simp)] at this
       rw [hTl.out];exact this)
      go_wp2
      go_ret2
      exact ⟨_,_,rfl,HK.out,tr_own HO'.out,rfl⟩
end Go.Proofs.YtcdcoiobpbdmpaaGreatDoor
