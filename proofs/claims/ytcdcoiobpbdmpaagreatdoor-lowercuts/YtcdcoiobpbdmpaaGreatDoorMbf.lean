import Derived.Test.YtcdcoiobpbdmpaaGreatDoorMbe
namespace Go.Proofs.YtcdcoiobpbdmpaaGreatDoor
open Go.RowKit Go.Maps Go.ChangeMaps
theorem bs_of {x:ByteArray} {r:List UInt8} (h:x.toList=r):x=bs r:=by
 rw [Lib.toList_data] at h
 apply ByteArray.ext
 apply Array.toList_inj.1
 rw [h]
 rfl
def Kn.trm (a:List UInt8) (b:UInt8):List UInt8:=if a.head? =some b then a.tail else a
set_option maxRecDepth 100000 in
set_option maxHeartbeats 1000000 in
theorem slTrim_any (a:List UInt8) (b:UInt8) (w:World) (ha:a.length≤1000000):
  Calls Tryz.prog 155 #[.string (bs a),.string (bs [b])] w fun e w'=>e= .returned (.string (bs (Kn.trm a b)))∧w'=w:=by
 have HP:=hide (fun w=>hasPrefixIn_any (bs a) (bs [b]) w)
 rw [pre_one] at HP
 unfold Kn.trm
 by_cases h:a.head? =some b
 ·rw [if_pos h]
  have d:decide (a.head? =some b)=true:=by simpa using h
  rw [d] at HP
  obtain ⟨r,rfl⟩: ∃ r,a=b::r:=by cases a with
   |nil=>cases h
   |cons x r=>simp at h;exact ⟨r,by rw [h]⟩
  have z1:((bs [b]).size:Int)=1:=by rw [bsz];rfl
  have z2:((bs (b::r)).size:Int)=(r.length:Int)+1:=by rw [bsz];rfl
  have z3:(0:Int)≤1:=by decide
  have z4:(1:Int)≤(r.length:Int)+1:=by omega
  have HX:Hid ((bs (b::r)).extract 1 (bs (b::r)).size=bs r):=hide (bs_of (by rw [bsx,bsz];simp))
  clear d h
  go_enter Tryz.func155,Tryz.ntmps155
  go_wp2_with fail
  refine (HP.out _).mono ?_
  rintro e w1 ⟨rfl,rfl⟩
  go_wp2
  go_ret
  exact ⟨congrArg (fun s=>Ending.returned (Value.string s)) HX.out,rfl⟩
 ·rw [if_neg h]
  have d:decide (a.head? =some b)=false:=by simpa using h
  rw [d] at HP
  clear d h
  go_enter Tryz.func155,Tryz.ntmps155
  go_wp2_with fail
  refine (HP.out _).mono ?_
  rintro e w1 ⟨rfl,rfl⟩
  go_wp2
  go_ret
  exact ⟨rfl,rfl⟩
theorem trim_any (a:List UInt8) (b:UInt8) (w:World) (ha:a.length≤1000000):
  Calls Tryz.prog 134 #[.string (bs a),.string (bs [b])] w fun e w'=>e= .returned (.string (bs (Kn.trm a b)))∧w'=w:=by
 have H:=hide (fun w=>slTrim_any a b w ha)
 go_enter Tryz.func134,Tryz.ntmps134
 go_wp2_with fail
 refine (H.out _).mono ?_
 rintro e w1 ⟨rfl,rfl⟩
 go_wp2
 go_ret
 exact ⟨rfl,rfl⟩
namespace Kn
def wtd (ns:List Nv) (ab:List Sx.Tr) (d:Int) (A:List UInt8) (m:Nat):Sum (List (List UInt8)) Int:=
 if d=6 then .inl [trm (typ ns A) 115]
 else if d=10 then match abv ab A with
  |none=> .inr 12
  |some g=>if (Sx.gP g).length ≠ m then .inr 15 else .inl ((Sx.gP g).map fun p=>(Sx.pH p).2)
 else .inl [[105]]
end Kn
def WtP (w':World) (tv:Value) (k:Int):Sum (List (List UInt8)) Int→Prop
 | .inl l=>TR w' tv l∧k=0
 | .inr c=>(∃ a n cap,tv= .slice a n cap)∧k=c
theorem TR.one {w:World} {b:Nat} {x:List UInt8} (h:w.cell? ⟨b,0,none⟩=some (.string (bs x))):TR w (.slice (some ⟨b,0,none⟩) 1 1) [x]:=
 ⟨_,1,rfl,fun _=>⟨b,0,rfl,fun k y hy=>by
   match k,hy with
   |0,hy=>simp at hy;subst hy;exact h⟩⟩
set_option maxRecDepth 100000 in
set_option maxHeartbeats 2000000 in
theorem wanted_any (c:Kg) (w:World) (P:Nat→Prop) (ab:List Sx.Tr) (d at':Int) (A B T:List UInt8) (N:Int) (E:List Sx.Tr) (aE:Option Addr) (cE:Nat) (uB uL vv:Value) (bd ns:List Kn.Nv) (t:Nat)
  (hA:A.length≤12) (hE:E.length≤6) (hg: ∀ nm g,Kn.abv ab nm=some g→(Sx.gP g).length≤1000000) (hab:ABv c w P ab) (hs:Kn.Sb ns bd) (hty:(Kn.typ ns A).length≤1000000) (h:KS c w vv bd (Kn.fkn ns bd) t):
  Calls Tryz.prog 136 #[.pointer (some ⟨c.g,0,none⟩),.agg #[.int .i64 d,.int .i64 at',.string (bs A),.string (bs B),.string (bs T),.int .i64 N,.slice aE E.length cE,uB,uL]] w fun e w'=> ∃ tv k,e= .returned (.tuple #[tv,.int .i64 k])∧Kp [] w w'∧WtP w' tv k (Kn.wtd ns ab d A E.length):=by
 have H:=hide h
 have SB:=hide hs
 have HA:=hide hab
 have HB:=hide (fun w' (hk:Kp [] w w')=>wantedBy_any c w' P ab d at' A B T N E aE cE uB uL vv bd ns t hA hE hg (HA.out.keep hk (by simp)) (H.out.kp hk))
 have HT:=hide (fun w' (hk:Kp [] w w')=>kTypeOf_any c w' vv bd ns t A (H.out.kp hk) SB.out (by omega))
 have HR:=hide (fun w=>trim_any (Kn.typ ns A) 115 w hty)
 clear h hs hab
 by_cases h6:d=6
 ·subst h6
  have e1:Kn.wtd ns ab 6 A E.length= .inl [Kn.trm (Kn.typ ns A) 115]:=rfl
  rw [e1]
  clear HB
  go_enter Tryz.func136,Tryz.ntmps136
  go_wp2
  go_region_held3 (fun w'=>w'.cell? ⟨w.heap.size,2,none⟩=some (.string (bs A))) ((first|assumption|go_keep))
   ((first|(go_at_call 133;refine (HT.out _ (by exact ((Kp.refl _ _).alloc _).drewN 1)).mono ?_;rintro e w2 ⟨rfl,k2⟩;have K2:=hide ((((Kp.refl [] w).alloc _).drewN 1).trans k2);have s2:w2.cell? ⟨w.heap.size,2,none⟩=some (.string (bs A)):=k2.some (by simp [go_sem]) (by simp);clear k2)|(go_at_call 134;refine (HR.out _).mono ?_;rintro e w3 ⟨rfl,rfl⟩)))
  all_goals
   go_wp2
   go_ret2
   exact ⟨_,_,rfl,K2.out.alloc _,TR.one (by first|(simp [go_sem];done)|(simp [go_sem];rfl)),rfl⟩
 ·have q6:(d == 6)=false:=by simpa using h6
  by_cases h10:d=10
  ·subst h10
   have HF:Hid (∀ (w':World) (tv:Value) (k:Int),(match Kn.abv ab A with
     |none=>tv= .slice none 0 0∧k=12
     |some g=>if (Sx.gP g).length ≠ E.length then tv= .slice none 0 0∧k=15 else TR w' tv ((Sx.gP g).map fun p=>(Sx.pH p).2)∧k=0)→WtP w' tv k (Kn.wtd ns ab 10 A E.length)):=hide (by
    intro w' tv k hm
    have e1:Kn.wtd ns ab 10 A E.length=match Kn.abv ab A with
     |none=> .inr 12
     |some g=>if (Sx.gP g).length ≠ E.length then .inr 15 else .inl ((Sx.gP g).map fun p=>(Sx.pH p).2):=rfl
    rw [e1]
    cases hG:Kn.abv ab A with
    |none=>rw [hG] at hm;exact ⟨⟨_,_,_,hm.1⟩,hm.2⟩
    |some g=>
     rw [hG] at hm
     dsimp only at hm ⊢
     split at hm
     ·rename_i hn;rw [if_pos hn];exact ⟨⟨_,_,_,hm.1⟩,hm.2⟩
     ·rename_i hn;rw [if_neg hn];exact hm)
   generalize Kn.wtd ns ab 10 A E.length=R at *
   go_enter Tryz.func136,Tryz.ntmps136
   go_wp2_with fail
   refine (HB.out _ ((Kp.refl _ _).alloc _)).mono ?_
   rintro e w1 ⟨tv,k,rfl,k1,hm⟩
   have K1:=hide (((Kp.refl [] w).alloc _).trans k1)
   have HM:=hide (HF.out _ _ _ hm)
   clear hm k1 HF
   go_wp2
   go_ret2
   exact ⟨_,_,rfl,K1.out,HM.out⟩
  ·have e1:Kn.wtd ns ab d A E.length= .inl [[105]]:=by unfold Kn.wtd;rw [if_neg h6,if_neg h10]
   rw [e1]
   have q10:(d == 10)=false:=by simpa using h10
   go_enter Tryz.func136,Tryz.ntmps136
   go_wp2
   go_ret2
   exact ⟨_,_,rfl,((Kp.refl _ _).alloc _).alloc _,TR.one (by first|(simp [go_sem];done)|(simp [go_sem];rfl)),rfl⟩
end Go.Proofs.YtcdcoiobpbdmpaaGreatDoor
namespace Go.Proofs.YtcdcoiobpbdmpaaGreatDoor
open Go.RowKit Go.Maps Go.ChangeMaps
def Kn.bnp (ns:List Nv) (d:Int) (A B T:List UInt8):List Nv:=
 if d=1 then [(A,[105])] else if d=4 then [(A,115::T),(B,114::T)] else if d=5 then [(A,typ ns B)] else if d=11∨d=12 then [(A,trm (typ ns B) 114)] else []
theorem VR.one {w:World} {b:Nat} {x:Kn.Nv} (h:w.cell? ⟨b,0,none⟩=some (.string (bs x.1))) (h1:w.cell? ⟨b,1,none⟩=some (.string (bs x.2))):VR w (.slice (some ⟨b,0,none⟩) 1 1) [x]:=
 ⟨_,1,rfl,fun _=>⟨b,0,rfl,fun k y hy=>by
   match k,hy with
   |0,hy=>simp at hy;subst hy;exact ⟨h,h1⟩⟩⟩
theorem VR.two {w:World} {b:Nat} {x y:Kn.Nv} (h:w.cell? ⟨b,0,none⟩=some (.string (bs x.1))) (h1:w.cell? ⟨b,1,none⟩=some (.string (bs x.2))) (h2:w.cell? ⟨b,2,none⟩=some (.string (bs y.1))) (h3:w.cell? ⟨b,3,none⟩=some (.string (bs y.2))):VR w (.slice (some ⟨b,0,none⟩) 2 2) [x,y]:=
 ⟨_,2,rfl,fun _=>⟨b,0,rfl,fun k z hz=>by
   match k,hz with
   |0,hz=>simp at hz;subst hz;exact ⟨h,h1⟩
   |1,hz=>simp at hz;subst hz;exact ⟨h2,h3⟩⟩⟩
theorem bs_cons (b:UInt8) (T:List UInt8):bs [b]++bs T=bs (b::T):=by
 apply ByteArray.ext
 simp [bs]
def BnT (d:Int):Prop:= ∀ (c:Kg) (w:World) (at':Int) (A B T:List UInt8) (N:Int) (uE uB uL vv:Value) (bd ns:List Kn.Nv) (t:Nat),B.length≤12→T.length≤4→(Kn.typ ns B).length≤1000000→Kn.Sb ns bd→KS c w vv bd (Kn.fkn ns bd) t→
 Calls Tryz.prog 106 #[.pointer (some ⟨c.g,0,none⟩),.agg #[.int .i64 d,.int .i64 at',.string (bs A),.string (bs B),.string (bs T),.int .i64 N,uE,uB,uL]] w fun e w'=> ∃ a cap,e= .returned (.slice a (Kn.bnp ns d A B T).length cap)∧(∀ g o,a=some ⟨g,o,none⟩→w.heap.size≤g∧g<w'.heap.size)∧Kp [] w w'∧VR w' (.slice a (Kn.bnp ns d A B T).length cap) (Kn.bnp ns d A B T)
set_option maxRecDepth 100000 in
set_option maxHeartbeats 2000000 in
theorem binds_1:BnT 1:=by
 intro c w at' A B T N uE uB uL vv bd ns t hB hT hty hs h
 have e1:Kn.bnp ns 1 A B T=[(A,[105])]:=rfl
 rw [e1]
 clear h
 go_enter Tryz.func106,Tryz.ntmps106
 go_wp2
 go_ret
 exact ⟨_,_,rfl,(by intro g o hh;simp at hh;simp;omega),((Kp.refl _ _).alloc _).alloc _,VR.one (by simp [go_sem]) (by first|(simp [go_sem];done)|(simp [go_sem];rfl))⟩
set_option maxRecDepth 100000 in
set_option maxHeartbeats 2000000 in
theorem binds_4:BnT 4:=by
 intro c w at' A B T N uE uB uL vv bd ns t hB hT hty hs h
 have e1:Kn.bnp ns 4 A B T=[(A,115::T),(B,114::T)]:=rfl
 rw [e1]
 have zT:(bs T).size≤4:=by rw [bsz];exact hT
 have HS:=hide (bs_cons 115 T)
 have HR:=hide (bs_cons 114 T)
 clear h
 go_enter Tryz.func106,Tryz.ntmps106
 go_wp2
 go_ret
 exact ⟨_,_,rfl,(by intro g o hh;simp at hh;simp;omega),((Kp.refl _ _).alloc _).alloc _,VR.two (by simp [go_sem]) (by rw [←HS.out];first|(simp [go_sem];done)|(simp [go_sem];rfl)) (by simp [go_sem]) (by rw [←HR.out];first|(simp [go_sem];done)|(simp [go_sem];rfl))⟩
set_option maxRecDepth 100000 in
set_option maxHeartbeats 2000000 in
theorem binds_5:BnT 5:=by
 intro c w at' A B T N uE uB uL vv bd ns t hB hT hty hs h
 have e1:Kn.bnp ns 5 A B T=[(A,Kn.typ ns B)]:=rfl
 rw [e1]
 have H:=hide h
 have SB:=hide hs
 have HT:=hide (fun w' (hk:Kp [] w w')=>kTypeOf_any c w' vv bd ns t B (H.out.kp hk) SB.out (by omega))
 clear h hs e1
 generalize Kn.typ ns B=Ty at *
 go_enter Tryz.func106,Tryz.ntmps106
 go_wp2
 go_region_held3 (fun w'=>w'.cell? ⟨w.heap.size,2,none⟩=some (.string (bs A))∧w'.cell? ⟨w.heap.size,3,none⟩=some (.string (bs B))) ((first|exact ⟨by assumption,by assumption⟩|go_keep))
  ((go_at_call 133;refine (HT.out _ (by exact ((Kp.refl _ _).alloc _).drewN 1)).mono ?_;rintro e w2 ⟨rfl,k2⟩;have K2:=hide ((((Kp.refl [] w).alloc _).drewN 1).trans k2);have s2:w2.cell? ⟨w.heap.size,2,none⟩=some (.string (bs A)):=k2.some (by simp [go_sem]) (by simp);have s3:w2.cell? ⟨w.heap.size,3,none⟩=some (.string (bs B)):=k2.some (by simp [go_sem]) (by simp);clear k2))
 all_goals
  go_wp2
  go_ret
  exact ⟨_,_,rfl,(by intro g o hh;have:=K2.out.size;simp at hh;simp;omega),K2.out.alloc _,VR.one (by simp [go_sem]) (by simp [go_sem])⟩
set_option maxRecDepth 100000 in
set_option maxHeartbeats 2000000 in
theorem binds_11:BnT 11:=by
 intro c w at' A B T N uE uB uL vv bd ns t hB hT hty hs h
 have e1:Kn.bnp ns 11 A B T=[(A,Kn.trm (Kn.typ ns B) 114)]:=rfl
 rw [e1]
 have H:=hide h
 have SB:=hide hs
 have HT:=hide (fun w' (hk:Kp [] w w')=>kTypeOf_any c w' vv bd ns t B (H.out.kp hk) SB.out (by omega))
 have HR:=hide (fun w=>trim_any (Kn.typ ns B) 114 w hty)
 clear h hs e1 hty
 generalize Kn.trm (Kn.typ ns B) 114=Tz at *
 generalize Kn.typ ns B=Ty at *
 go_enter Tryz.func106,Tryz.ntmps106
 go_wp2
 go_region_held3 (fun w'=>w'.cell? ⟨w.heap.size,2,none⟩=some (.string (bs A))∧w'.cell? ⟨w.heap.size,3,none⟩=some (.string (bs B))) ((first|exact ⟨by assumption,by assumption⟩|go_keep))
  ((first|(go_at_call 133;refine (HT.out _ (by exact ((Kp.refl _ _).alloc _).drewN 1)).mono ?_;rintro e w2 ⟨rfl,k2⟩;have K2:=hide ((((Kp.refl [] w).alloc _).drewN 1).trans k2);have s2:w2.cell? ⟨w.heap.size,2,none⟩=some (.string (bs A)):=k2.some (by simp [go_sem]) (by simp);have s3:w2.cell? ⟨w.heap.size,3,none⟩=some (.string (bs B)):=k2.some (by simp [go_sem]) (by simp);clear k2)|(go_at_call 134;refine (HR.out _).mono ?_;rintro e w3 ⟨rfl,rfl⟩)))
 all_goals
  go_wp2
  go_ret
  exact ⟨_,_,rfl,(by intro g o hh;have:=K2.out.size;simp at hh;simp;omega),K2.out.alloc _,VR.one (by simp [go_sem]) (by simp [go_sem])⟩
set_option maxRecDepth 100000 in
set_option maxHeartbeats 2000000 in
theorem binds_12:BnT 12:=by
 intro c w at' A B T N uE uB uL vv bd ns t hB hT hty hs h
 have e1:Kn.bnp ns 12 A B T=[(A,Kn.trm (Kn.typ ns B) 114)]:=rfl
 rw [e1]
 have H:=hide h
 have SB:=hide hs
 have HT:=hide (fun w' (hk:Kp [] w w')=>kTypeOf_any c w' vv bd ns t B (H.out.kp hk) SB.out (by omega))
 have HR:=hide (fun w=>trim_any (Kn.typ ns B) 114 w hty)
 clear h hs e1 hty
 generalize Kn.trm (Kn.typ ns B) 114=Tz at *
 generalize Kn.typ ns B=Ty at *
 go_enter Tryz.func106,Tryz.ntmps106
 go_wp2
 go_region_held3 (fun w'=>w'.cell? ⟨w.heap.size,2,none⟩=some (.string (bs A))∧w'.cell? ⟨w.heap.size,3,none⟩=some (.string (bs B))) ((first|exact ⟨by assumption,by assumption⟩|go_keep))
  ((first|(go_at_call 133;refine (HT.out _ (by exact ((Kp.refl _ _).alloc _).drewN 1)).mono ?_;rintro e w2 ⟨rfl,k2⟩;have K2:=hide ((((Kp.refl [] w).alloc _).drewN 1).trans k2);have s2:w2.cell? ⟨w.heap.size,2,none⟩=some (.string (bs A)):=k2.some (by simp [go_sem]) (by simp);have s3:w2.cell? ⟨w.heap.size,3,none⟩=some (.string (bs B)):=k2.some (by simp [go_sem]) (by simp);clear k2)|(go_at_call 134;refine (HR.out _).mono ?_;rintro e w3 ⟨rfl,rfl⟩)))
 all_goals
  go_wp2
  go_ret
  exact ⟨_,_,rfl,(by intro g o hh;have:=K2.out.size;simp at hh;simp;omega),K2.out.alloc _,VR.one (by simp [go_sem]) (by simp [go_sem])⟩
set_option maxRecDepth 100000 in
set_option maxHeartbeats 2000000 in
theorem binds_no (d:Int) (hd:d ≠ 1∧d ≠ 4∧d ≠ 5∧d ≠ 11∧d ≠ 12):BnT d:=by
 intro c w at' A B T N uE uB uL vv bd ns t hB hT hty hs h
 obtain ⟨h1,h4,h5,h11,h12⟩:=hd
 have e1:Kn.bnp ns d A B T=[]:=by unfold Kn.bnp;rw [if_neg h1,if_neg h4,if_neg h5,if_neg (fun h=>h.elim h11 h12)]
 rw [e1]
 have q1:(d == 1)=false:=by simpa using h1
 have q4:(d == 4)=false:=by simpa using h4
 have q5:(d == 5)=false:=by simpa using h5
 have q11:(d == 11)=false:=by simpa using h11
 have q12:(d == 12)=false:=by simpa using h12
 clear h h1 h4 h5 h11 h12
 go_enter Tryz.func106,Tryz.ntmps106
 go_wp2
 go_ret
 exact ⟨none,0,rfl,(by intro g o hh;cases hh),(Kp.refl _ _).alloc _,⟨none,0,rfl,fun h=>absurd rfl h⟩⟩
theorem binds_any (d:Int):BnT d:=by
 by_cases h1:d=1
 ·subst h1;exact binds_1
 by_cases h4:d=4
 ·subst h4;exact binds_4
 by_cases h5:d=5
 ·subst h5;exact binds_5
 by_cases h11:d=11
 ·subst h11;exact binds_11
 by_cases h12:d=12
 ·subst h12;exact binds_12
 exact binds_no d ⟨h1,h4,h5,h11,h12⟩
end Go.Proofs.YtcdcoiobpbdmpaaGreatDoor
