import Derived.Test.YtbhhkaobkdeolaaGreatDoorMbd
import Derived.Test.YtbhhkaobkdeolaaGreatDoorMag
namespace Go.Proofs.YtbhhkaobkdeolaaGreatDoor
open Go.RowKit Go.Maps Go.ChangeMaps
theorem bs_of {x:ByteArray} {r:List UInt8} (h:x.toList=r):x=bs r:=by
 rw [Lib.toList_data] at h
 apply ByteArray.ext
 apply Array.toList_inj.1
 rw [h]
 rfl
def Kn.trm (a:List UInt8) (b:UInt8):List UInt8:=if a.head? =some b then a.tail else a
set_option maxRecDepth 100000 in
set_option maxHeartbeats 1000000 in
theorem slTrim_any (a:List UInt8) (b:UInt8) (w:World) (ha:a.length≤1000000):
  Calls Tryz.prog 167 #[.string (bs a),.string (bs [b])] w fun e w'=>e= .returned (.string (bs (Kn.trm a b)))∧w'=w:=by
 have HP:=hide (fun w=>hasPrefixIn_any (bs a) (bs [b]) w)
 rw [pre_one] at HP
 unfold Kn.trm
 by_cases h:a.head? =some b
 ·rw [if_pos h]
  have d:decide (a.head? =some b)=true:=by simpa using h
  rw [d] at HP
  obtain ⟨r,rfl⟩: ∃ r,a=b::r:=by cases a with
   |nil=>cases h
   |cons x r=>simp at h;exact ⟨r,by rw [h]⟩
  have z1:((bs [b]).size:Int)=1:=by rw [bsz];rfl
  have z2:((bs (b::r)).size:Int)=(r.length:Int)+1:=by rw [bsz];rfl
  have z3:(0:Int)≤1:=by decide
  have z4:(1:Int)≤(r.length:Int)+1:=by omega
  have HX:Hid ((bs (b::r)).extract 1 (bs (b::r)).size=bs r):=hide (bs_of (by rw [bsx,bsz];simp))
  clear d h
  go_enter Tryz.func167,Tryz.ntmps167
  go_wp2_with fail
  refine (HP.out _).mono ?_
  rintro e w1 ⟨rfl,rfl⟩
  go_wp2
  go_ret
  exact ⟨congrArg (fun s=>Ending.returned (Value.string s)) HX.out,rfl⟩
 ·rw [if_neg h]
  have d:decide (a.head? =some b)=false:=by simpa using h
  rw [d] at HP
  clear d h
  go_enter Tryz.func167,Tryz.ntmps167
  go_wp2_with fail
  refine (HP.out _).mono ?_
  rintro e w1 ⟨rfl,rfl⟩
  go_wp2
  go_ret
  exact ⟨rfl,rfl⟩
theorem trim_any (a:List UInt8) (b:UInt8) (w:World) (ha:a.length≤1000000):
  Calls Tryz.prog 149 #[.string (bs a),.string (bs [b])] w fun e w'=>e= .returned (.string (bs (Kn.trm a b)))∧w'=w:=by
 have H:=hide (fun w=>slTrim_any a b w ha)
 go_enter Tryz.func149,Tryz.ntmps149
 go_wp2_with fail
 refine (H.out _).mono ?_
 rintro e w1 ⟨rfl,rfl⟩
 go_wp2
 go_ret
 exact ⟨rfl,rfl⟩
namespace Kn
def wtd (ns:List Nv) (ab:List Sx.Tr) (d:Int) (A:List UInt8) (m:Nat):Sum (List (List UInt8)) Int:=
 if d=6 then .inl [trm (typ ns A) 115]
 else if d=10 then match abv ab A with
  |none=> .inr 12
  |some g=>if (Sx.gP g).length ≠ m then .inr 15 else .inl ((Sx.gP g).map fun p=>(Sx.pH p).2)
 else .inl [[105]]
end Kn
def WtP (w':World) (tv:Value) (k:Int):Sum (List (List UInt8)) Int→Prop
 | .inl l=>TR w' tv l∧k=0
 | .inr c=>(∃ a n cap,tv= .slice a n cap)∧k=c
theorem TR.one {w:World} {b:Nat} {x:List UInt8} (h:w.cell? ⟨b,0,none⟩=some (.string (bs x))):TR w (.slice (some ⟨b,0,none⟩) 1 1) [x]:=
 ⟨_,1,rfl,fun _=>⟨b,0,rfl,fun k y hy=>by
   match k,hy with
   |0,hy=>simp at hy;subst hy;exact h⟩⟩
set_option maxRecDepth 100000 in
set_option maxHeartbeats 2000000 in
theorem wanted_any (c:Kg) (w:World) (P:Nat→Prop) (ab:List Sx.Tr) (d at':Int) (A B T:List UInt8) (N:Int) (E:List Sx.Tr) (aE:Option Addr) (cE:Nat) (uB uL vv:Value) (bd ns:List Kn.Nv) (t:Nat)
  (hA:A.length≤12) (hE:E.length≤6) (hg: ∀ nm g,Kn.abv ab nm=some g→(Sx.gP g).length≤1000000) (hab:ABv c w P ab) (hs:Kn.Sb ns bd) (hty:(Kn.typ ns A).length≤1000000) (h:KS c w vv bd (Kn.fkn ns bd) t):
  Calls Tryz.prog 151 #[.pointer (some ⟨c.g,0,none⟩),.agg #[.int .i64 d,.int .i64 at',.string (bs A),.string (bs B),.string (bs T),.int .i64 N,.slice aE E.length cE,uB,uL]] w fun e w'=> ∃ tv k,e= .returned (.tuple #[tv,.int .i64 k])∧Kp [] w w'∧WtP w' tv k (Kn.wtd ns ab d A E.length):=by
 have H:=hide h
 have SB:=hide hs
 have HA:=hide hab
 have HB:=hide (fun w' (hk:Kp [] w w')=>wantedBy_any c w' P ab d at' A B T N E aE cE uB uL vv bd ns t hA hE hg (HA.out.keep hk (by simp)) (H.out.kp hk))
 have HT:=hide (fun w' (hk:Kp [] w w')=>kTypeOf_any c w' vv bd ns t A (H.out.kp hk) SB.out (by omega))
 have HR:=hide (fun w=>trim_any (Kn.typ ns A) 115 w hty)
 clear h hs hab
 by_cases h6:d=6
 ·subst h6
  have e1:Kn.wtd ns ab 6 A E.length= .inl [Kn.trm (Kn.typ ns A) 115]:=rfl
  rw [e1]
  clear HB
  go_enter Tryz.func151,Tryz.ntmps151
  go_wp2
  go_region_held3 (fun w'=>w'.cell? ⟨w.heap.size,2,none⟩=some (.string (bs A))) ((first|assumption|go_keep))
   ((first|(go_at_call 148;refine (HT.out _ (by exact ((Kp.refl _ _).alloc _).drewN 1)).mono ?_;rintro e w2 ⟨rfl,k2⟩;have K2:=hide ((((Kp.refl [] w).alloc _).drewN 1).trans k2);have s2:w2.cell? ⟨w.heap.size,2,none⟩=some (.string (bs A)):=k2.some (by simp [go_sem]) (by simp);clear k2)|(go_at_call 149;refine (HR.out _).mono ?_;rintro e w3 ⟨rfl,rfl⟩)))
  all_goals
   go_wp2
   go_ret2
   exact ⟨_,_,rfl,K2.out.alloc _,TR.one (by first|(simp [go_sem];done)|(simp [go_sem];rfl)),rfl⟩
 ·have q6:(d == 6)=false:=by simpa using h6
  by_cases h10:d=10
  ·subst h10
   have HF:Hid (∀ (w':World) (tv:Value) (k:Int),(match Kn.abv ab A with
     |none=>tv= .slice none 0 0∧k=12
     |some g=>if (Sx.gP g).length ≠ E.length then tv= .slice none 0 0∧k=15 else TR w' tv ((Sx.gP g).map fun p=>(Sx.pH p).2)∧k=0)→WtP w' tv k (Kn.wtd ns ab 10 A E.length)):=hide (by
    intro w' tv k hm
    have e1:Kn.wtd ns ab 10 A E.length=match Kn.abv ab A with
     |none=> .inr 12
     |some g=>if (Sx.gP g).length ≠ E.length then .inr 15 else .inl ((Sx.gP g).map fun p=>(Sx.pH p).2):=rfl
    rw [e1]
    cases hG:Kn.abv ab A with
    |none=>rw [hG] at hm;exact ⟨⟨_,_,_,hm.1⟩,hm.2⟩
    |some g=>
     rw [hG] at hm
     dsimp only at hm ⊢
     split at hm
     ·rename_i hn;rw [if_pos hn];exact ⟨⟨_,_,_,hm.1⟩,hm.2⟩
     ·rename_i hn;rw [if_neg hn];exact hm)
   generalize Kn.wtd ns ab 10 A E.length=R at *
   go_enter Tryz.func151,Tryz.ntmps151
   go_wp2_with fail
   refine (HB.out _ ((Kp.refl _ _).alloc _)).mono ?_
   rintro e w1 ⟨tv,k,rfl,k1,hm⟩
   have K1:=hide (((Kp.refl [] w).alloc _).trans k1)
   have HM:=hide (HF.out _ _ _ hm)
   clear hm k1 HF
   go_wp2
   go_ret2
   exact ⟨_,_,rfl,K1.out,HM.out⟩
  ·have e1:Kn.wtd ns ab d A E.length= .inl [[105]]:=by unfold Kn.wtd;rw [if_neg h6,if_neg h10]
   rw [e1]
   have q10:(d == 10)=false:=by simpa using h10
   go_enter Tryz.func151,Tryz.ntmps151
   go_wp2
   go_ret2
   exact ⟨_,_,rfl,((Kp.refl _ _).alloc _).alloc _,TR.one (by first|(simp [go_sem];done)|(simp [go_sem];rfl)),rfl⟩
end Go.Proofs.YtbhhkaobkdeolaaGreatDoor
namespace Go.Proofs.YtbhhkaobkdeolaaGreatDoor
open Go.RowKit Go.Maps Go.ChangeMaps
def Kn.bnp (ns:List Nv) (d:Int) (A B T:List UInt8):List Nv:=
 if d=1 then [(A,[105])] else if d=4 then [(A,115::T),(B,114::T)] else if d=5 then [(A,typ ns B)] else if d=11∨d=12 then [(A,trm (typ ns B) 114)] else []
theorem VR.one {w:World} {b:Nat} {x:Kn.Nv} (h:w.cell? ⟨b,0,none⟩=some (.string (bs x.1))) (h1:w.cell? ⟨b,1,none⟩=some (.string (bs x.2))):VR w (.slice (some ⟨b,0,none⟩) 1 1) [x]:=
 ⟨_,1,rfl,fun _=>⟨b,0,rfl,fun k y hy=>by
   match k,hy with
   |0,hy=>simp at hy;subst hy;exact ⟨h,h1⟩⟩⟩
theorem VR.two {w:World} {b:Nat} {x y:Kn.Nv} (h:w.cell? ⟨b,0,none⟩=some (.string (bs x.1))) (h1:w.cell? ⟨b,1,none⟩=some (.string (bs x.2))) (h2:w.cell? ⟨b,2,none⟩=some (.string (bs y.1))) (h3:w.cell? ⟨b,3,none⟩=some (.string (bs y.2))):VR w (.slice (some ⟨b,0,none⟩) 2 2) [x,y]:=
 ⟨_,2,rfl,fun _=>⟨b,0,rfl,fun k z hz=>by
   match k,hz with
   |0,hz=>simp at hz;subst hz;exact ⟨h,h1⟩
   |1,hz=>simp at hz;subst hz;exact ⟨h2,h3⟩⟩⟩
theorem bs_cons (b:UInt8) (T:List UInt8):bs [b]++bs T=bs (b::T):=by
 apply ByteArray.ext
 simp [bs]
def BnT (d:Int):Prop:= ∀ (c:Kg) (w:World) (at':Int) (A B T:List UInt8) (N:Int) (uE uB uL vv:Value) (bd ns:List Kn.Nv) (t:Nat),B.length≤12→T.length≤4→(Kn.typ ns B).length≤1000000→Kn.Sb ns bd→KS c w vv bd (Kn.fkn ns bd) t→
 Calls Tryz.prog 124 #[.pointer (some ⟨c.g,0,none⟩),.agg #[.int .i64 d,.int .i64 at',.string (bs A),.string (bs B),.string (bs T),.int .i64 N,uE,uB,uL]] w fun e w'=> ∃ a cap,e= .returned (.slice a (Kn.bnp ns d A B T).length cap)∧(∀ g o,a=some ⟨g,o,none⟩→w.heap.size≤g∧g<w'.heap.size)∧Kp [] w w'∧VR w' (.slice a (Kn.bnp ns d A B T).length cap) (Kn.bnp ns d A B T)
set_option maxRecDepth 100000 in
set_option maxHeartbeats 2000000 in
theorem binds_1:BnT 1:=by
 intro c w at' A B T N uE uB uL vv bd ns t hB hT hty hs h
 have e1:Kn.bnp ns 1 A B T=[(A,[105])]:=rfl
 rw [e1]
 clear h
 go_enter Tryz.func124,Tryz.ntmps124
 go_wp2
 go_ret
 exact ⟨_,_,rfl,(by intro g o hh;simp at hh;simp;omega),((Kp.refl _ _).alloc _).alloc _,VR.one (by simp [go_sem]) (by first|(simp [go_sem];done)|(simp [go_sem];rfl))⟩
set_option maxRecDepth 100000 in
set_option maxHeartbeats 2000000 in
theorem binds_4:BnT 4:=by
 intro c w at' A B T N uE uB uL vv bd ns t hB hT hty hs h
 have e1:Kn.bnp ns 4 A B T=[(A,115::T),(B,114::T)]:=rfl
 rw [e1]
 have zT:(bs T).size≤4:=by rw [bsz];exact hT
 have HS:=hide (bs_cons 115 T)
 have HR:=hide (bs_cons 114 T)
 clear h
 go_enter Tryz.func124,Tryz.ntmps124
 go_wp2
 go_ret
 exact ⟨_,_,rfl,(by intro g o hh;simp at hh;simp;omega),((Kp.refl _ _).alloc _).alloc _,VR.two (by simp [go_sem]) (by rw [←HS.out];first|(simp [go_sem];done)|(simp [go_sem];rfl)) (by simp [go_sem]) (by rw [←HR.out];first|(simp [go_sem];done)|(simp [go_sem];rfl))⟩
set_option maxRecDepth 100000 in
set_option maxHeartbeats 2000000 in
theorem binds_5:BnT 5:=by
 intro c w at' A B T N uE uB uL vv bd ns t hB hT hty hs h
 have e1:Kn.bnp ns 5 A B T=[(A,Kn.typ ns B)]:=rfl
 rw [e1]
 have H:=hide h
 have SB:=hide hs
 have HT:=hide (fun w' (hk:Kp [] w w')=>kTypeOf_any c w' vv bd ns t B (H.out.kp hk) SB.out (by omega))
 clear h hs e1
 generalize Kn.typ ns B=Ty at *
 go_enter Tryz.func124,Tryz.ntmps124
 go_wp2
 go_region_held3 (fun w'=>w'.cell? ⟨w.heap.size,2,none⟩=some (.string (bs A))∧w'.cell? ⟨w.heap.size,3,none⟩=some (.string (bs B))) ((first|exact ⟨by assumption,by assumption⟩|go_keep))
  ((go_at_call 148;refine (HT.out _ (by exact ((Kp.refl _ _).alloc _).drewN 1)).mono ?_;rintro e w2 ⟨rfl,k2⟩;have K2:=hide ((((Kp.refl [] w).alloc _).drewN 1).trans k2);have s2:w2.cell? ⟨w.heap.size,2,none⟩=some (.string (bs A)):=k2.some (by simp [go_sem]) (by simp);have s3:w2.cell? ⟨w.heap.size,3,none⟩=some (.string (bs B)):=k2.some (by simp [go_sem]) (by simp);clear k2))
 all_goals
  go_wp2
  go_ret
  exact ⟨_,_,rfl,(by intro g o hh;have:=K2.out.size;simp at hh;simp;omega),K2.out.alloc _,VR.one (by simp [go_sem]) (by simp [go_sem])⟩
set_option maxRecDepth 100000 in
set_option maxHeartbeats 2000000 in
theorem binds_11:BnT 11:=by
 intro c w at' A B T N uE uB uL vv bd ns t hB hT hty hs h
 have e1:Kn.bnp ns 11 A B T=[(A,Kn.trm (Kn.typ ns B) 114)]:=rfl
 rw [e1]
 have H:=hide h
 have SB:=hide hs
 have HT:=hide (fun w' (hk:Kp [] w w')=>kTypeOf_any c w' vv bd ns t B (H.out.kp hk) SB.out (by omega))
 have HR:=hide (fun w=>trim_any (Kn.typ ns B) 114 w hty)
 clear h hs e1 hty
 generalize Kn.trm (Kn.typ ns B) 114=Tz at *
 generalize Kn.typ ns B=Ty at *
 go_enter Tryz.func124,Tryz.ntmps124
 go_wp2
 go_region_held3 (fun w'=>w'.cell? ⟨w.heap.size,2,none⟩=some (.string (bs A))∧w'.cell? ⟨w.heap.size,3,none⟩=some (.string (bs B))) ((first|exact ⟨by assumption,by assumption⟩|go_keep))
  ((first|(go_at_call 148;refine (HT.out _ (by exact ((Kp.refl _ _).alloc _).drewN 1)).mono ?_;rintro e w2 ⟨rfl,k2⟩;have K2:=hide ((((Kp.refl [] w).alloc _).drewN 1).trans k2);have s2:w2.cell? ⟨w.heap.size,2,none⟩=some (.string (bs A)):=k2.some (by simp [go_sem]) (by simp);have s3:w2.cell? ⟨w.heap.size,3,none⟩=some (.string (bs B)):=k2.some (by simp [go_sem]) (by simp);clear k2)|(go_at_call 149;refine (HR.out _).mono ?_;rintro e w3 ⟨rfl,rfl⟩)))
 all_goals
  go_wp2
  go_ret
  exact ⟨_,_,rfl,(by intro g o hh;have:=K2.out.size;simp at hh;simp;omega),K2.out.alloc _,VR.one (by simp [go_sem]) (by simp [go_sem])⟩
set_option maxRecDepth 100000 in
set_option maxHeartbeats 2000000 in
theorem binds_12:BnT 12:=by
 intro c w at' A B T N uE uB uL vv bd ns t hB hT hty hs h
 have e1:Kn.bnp ns 12 A B T=[(A,Kn.trm (Kn.typ ns B) 114)]:=rfl
 rw [e1]
 have H:=hide h
 have SB:=hide hs
 have HT:=hide (fun w' (hk:Kp [] w w')=>kTypeOf_any c w' vv bd ns t B (H.out.kp hk) SB.out (by omega))
 have HR:=hide (fun w=>trim_any (Kn.typ ns B) 114 w hty)
 clear h hs e1 hty
 generalize Kn.trm (Kn.typ ns B) 114=Tz at *
 generalize Kn.typ ns B=Ty at *
 go_enter Tryz.func124,Tryz.ntmps124
 go_wp2
 go_region_held3 (fun w'=>w'.cell? ⟨w.heap.size,2,none⟩=some (.string (bs A))∧w'.cell? ⟨w.heap.size,3,none⟩=some (.string (bs B))) ((first|exact ⟨by assumption,by assumption⟩|go_keep))
  ((first|(go_at_call 148;refine (HT.out _ (by exact ((Kp.refl _ _).alloc _).drewN 1)).mono ?_;rintro e w2 ⟨rfl,k2⟩;have K2:=hide ((((Kp.refl [] w).alloc _).drewN 1).trans k2);have s2:w2.cell? ⟨w.heap.size,2,none⟩=some (.string (bs A)):=k2.some (by simp [go_sem]) (by simp);have s3:w2.cell? ⟨w.heap.size,3,none⟩=some (.string (bs B)):=k2.some (by simp [go_sem]) (by simp);clear k2)|(go_at_call 149;refine (HR.out _).mono ?_;rintro e w3 ⟨rfl,rfl⟩)))
 all_goals
  go_wp2
  go_ret
  exact ⟨_,_,rfl,(by intro g o hh;have:=K2.out.size;simp at hh;simp;omega),K2.out.alloc _,VR.one (by simp [go_sem]) (by simp [go_sem])⟩
set_option maxRecDepth 100000 in
set_option maxHeartbeats 2000000 in
theorem binds_no (d:Int) (hd:d ≠ 1∧d ≠ 4∧d ≠ 5∧d ≠ 11∧d ≠ 12):BnT d:=by
 intro c w at' A B T N uE uB uL vv bd ns t hB hT hty hs h
 obtain ⟨h1,h4,h5,h11,h12⟩:=hd
 have e1:Kn.bnp ns d A B T=[]:=by unfold Kn.bnp;rw [if_neg h1,if_neg h4,if_neg h5,if_neg (fun h=>h.elim h11 h12)]
 rw [e1]
 have q1:(d == 1)=false:=by simpa using h1
 have q4:(d == 4)=false:=by simpa using h4
 have q5:(d == 5)=false:=by simpa using h5
 have q11:(d == 11)=false:=by simpa using h11
 have q12:(d == 12)=false:=by simpa using h12
 clear h h1 h4 h5 h11 h12
 go_enter Tryz.func124,Tryz.ntmps124
 go_wp2
 go_ret
 exact ⟨none,0,rfl,(by intro g o hh;cases hh),(Kp.refl _ _).alloc _,⟨none,0,rfl,fun h=>absurd rfl h⟩⟩
theorem binds_any (d:Int):BnT d:=by
 by_cases h1:d=1
 ·subst h1;exact binds_1
 by_cases h4:d=4
 ·subst h4;exact binds_4
 by_cases h5:d=5
 ·subst h5;exact binds_5
 by_cases h11:d=11
 ·subst h11;exact binds_11
 by_cases h12:d=12
 ·subst h12;exact binds_12
 exact binds_no d ⟨h1,h4,h5,h11,h12⟩
end Go.Proofs.YtbhhkaobkdeolaaGreatDoor
namespace Go.Proofs.YtbhhkaobkdeolaaGreatDoor
open Go.RowKit Go.Maps Go.ChangeMaps
namespace Kn
def exs (n:Nat) (ns:List Nv):List Sx.Tr→List (List UInt8)→Int
 |d::r,t::s=>if exc n ns d t ≠ 0 then exc n ns d t else exs n ns r s
 |_,_=>0
def cho (d N:Int) (T:List UInt8):Int:=if d ≠ 4 then 0 else if N<1∨5<N then 14 else if Rn.isT T 2=false then 11 else 0
def scp (n:Nat) (ab:List Sx.Tr) (ns bd V:List Nv) (d N:Int) (A T:List UInt8) (E:List Sx.Tr) (u:Int):Int:=
 if twiceP bd V then 9 else if u ≠ 0 then u else match wtd ns ab d A E.length with
  | .inr k=>k
  | .inl ts=>if exs n ns E ts ≠ 0 then exs n ns E ts else cho d N T
theorem wtd_code {ns:List Nv} {ab:List Sx.Tr} {d:Int} {A:List UInt8} {m:Nat} {k:Int} (h:wtd ns ab d A m= .inr k):k ≠ 0:=by
 unfold wtd at h
 split at h
 ·cases h
 ·split at h
  ·split at h
   ·cases h;decide
   ·split at h
    ·cases h;decide
    ·cases h
  ·cases h
end Kn
structure BQ (b:Nat) (w:World) (d at' N:Int) (A B T:List UInt8) (uE uB uL:Value):Prop where
 q0:w.cell? ⟨b,0,none⟩=some (.int .i64 d)
 q1:w.cell? ⟨b,1,none⟩=some (.int .i64 at')
 q2:w.cell? ⟨b,2,none⟩=some (.string (bs A))
 q3:w.cell? ⟨b,3,none⟩=some (.string (bs B))
 q4:w.cell? ⟨b,4,none⟩=some (.string (bs T))
 q5:w.cell? ⟨b,5,none⟩=some (.int .i64 N)
 q6:w.cell? ⟨b,6,none⟩=some uE
 q7:w.cell? ⟨b,7,none⟩=some uB
 q8:w.cell? ⟨b,8,none⟩=some uL
theorem BQ.keep {S:List Nat} {b:Nat} {w w':World} {d at' N:Int} {A B T:List UInt8} {uE uB uL:Value} (h:BQ b w d at' N A B T uE uB uL) (hk:Kp S w w') (hb:b ∉ S):BQ b w' d at' N A B T uE uB uL:=
 ⟨hk.some h.q0 hb,hk.some h.q1 hb,hk.some h.q2 hb,hk.some h.q3 hb,hk.some h.q4 hb,hk.some h.q5 hb,hk.some h.q6 hb,hk.some h.q7 hb,hk.some h.q8 hb⟩
theorem BQ.new (w:World) (d at' N:Int) (A B T:List UInt8) (uE uB uL:Value) (t:TypeId):BQ w.heap.size (w.alloc (.cells #[.int .i64 d,.int .i64 at',.string (bs A),.string (bs B),.string (bs T),.int .i64 N,uE,uB,uL] t)) d at' N A B T uE uB uL:=
 ⟨by simp [go_sem],by simp [go_sem],by simp [go_sem],by simp [go_sem],by simp [go_sem],by simp [go_sem],by simp [go_sem],by simp [go_sem],by simp [go_sem]⟩
set_option maxRecDepth 100000 in
set_option maxHeartbeats 4000000 in
theorem stmtCode_any' (c:Kg) (m:Nat) (w:World) (P:Nat→Prop) (ab:List Sx.Tr) (d at':Int) (A B T:List UInt8) (N:Int) (E body els:List Sx.Tr) (aE:Option Addr) (cE:Nat) (uB uL vv:Value) (bd ns V:List Kn.Nv) (aV:Option Addr) (cV:Nat) (t:Nat)
  (d1:1≤d) (d2:d≤14) (hA:A.length≤12) (hB:B.length≤12) (hTl:T.length≤4) (hE:E.length≤6) (h1:d ≠ 10→E.length≤1) (hV:VR w (.slice aV V.length cV) V) (hVl:V.length≤2) (hVz: ∀ v,v ∈ V→v.1.length≤1000000)
  (hx: ∀ (i:Nat) x,E[i]? =some x→Rn.xf (m+1) x=0) (hEL:EL w P (m+1) E (.slice aE E.length cE))
  (hg: ∀ nm g,Kn.abv ab nm=some g→(Sx.gP g).length≤1000000) (hab:ABv c w P ab) (hs:Kn.Sb ns bd) (hty:(Kn.typ ns A).length≤1000000) (h:KS c w vv bd (Kn.fkn ns bd) t):
  Calls Tryz.prog 125 #[.pointer (some ⟨c.g,0,none⟩),.agg #[.int .i64 d,.int .i64 at',.string (bs A),.string (bs B),.string (bs T),.int .i64 N,.slice aE E.length cE,uB,uL],.slice aV V.length cV] w fun e w'=>
   e= .returned (.int .i64 (Kn.scp (m+1) ab ns bd V d N A T E (Kn.usedF ns (Sx.tS d at' A B T N E body els))))∧Kp [] w w':=by
 have H:=hide h
 have SB:=hide hs
 have HAB:=hide hab
 have HE:=hide hEL
 have HX:=hide hx
 have HVV:=hide hV
 have HR:=hide (fun w' (hk:Kp [] w w')=>kRepeats_any c w' vv bd (Kn.fkn ns bd) t V aV cV (H.out.kp hk) (by
  obtain ⟨a0,c0,e0,f0⟩:=HVV.out
  exact ⟨a0,c0,e0,fun hn=>by obtain ⟨g,o,h3,h4⟩:=f0 hn;exact ⟨g,o,h3,fun k x hx=>⟨hk.some (h4 k x hx).1 (by simp),hk.some (h4 k x hx).2 (by simp)⟩⟩⟩) (by omega) hVz)
 have HU:=hide (fun w' (hk:Kp [] w w')=>used_any d d1 d2 c w' at' A B T N E body els (.slice aE E.length cE) uB uL vv bd ns t hA hB SB.out (H.out.kp hk))
 have HW:=hide (fun w' (hk:Kp [] w w')=>wanted_any c w' P ab d at' A B T N E aE cE uB uL vv bd ns t hA hE hg (HAB.out.keep hk (by simp)) SB.out hty (H.out.kp hk))
 clear h hs hab hEL hx hV
 generalize Kn.usedF ns (Sx.tS d at' A B T N E body els)=U at *
 have HQ:Hid (Kn.scp (m+1) ab ns bd V d N A T E U=if Kn.twiceP bd V then 9 else if U ≠ 0 then U else match Kn.wtd ns ab d A E.length with
  | .inr k=>k
  | .inl ts=>if Kn.exs (m+1) ns E ts ≠ 0 then Kn.exs (m+1) ns E ts else Kn.cho d N T):=rfl
 generalize Kn.scp (m+1) ab ns bd V d N A T E U=R at *
 cases htw:Kn.twiceP bd V with
 |true=>
  rw [htw] at HR HQ
  obtain rfl:R=9:=HQ.out
  clear HQ htw
  go_enter Tryz.func125,Tryz.ntmps125
  go_wp2_with fail
  refine (HR.out _ ((Kp.refl _ _).alloc _)).mono ?_
  rintro e w1 ⟨rfl,k1⟩
  have K1:=hide (((Kp.refl [] w).alloc _).trans k1)
  clear k1
  go_wp2
  go_ret
  exact ⟨rfl,K1.out⟩
 |false=>
  rw [htw] at HR HQ
  by_cases hU:U=0
  ·subst hU
   have HQ2:Hid (R=match Kn.wtd ns ab d A E.length with
    | .inr k=>k
    | .inl ts=>if Kn.exs (m+1) ns E ts ≠ 0 then Kn.exs (m+1) ns E ts else Kn.cho d N T):=hide HQ.out
   have HWC:Hid (∀ k,Kn.wtd ns ab d A E.length= .inr k→k ≠ 0):=hide (fun k hk=>Kn.wtd_code hk)
   have HWL:Hid (∀ ts,Kn.wtd ns ab d A E.length= .inl ts→E.length≤ts.length):=hide (fun ts hts=>by
    unfold Kn.wtd at hts
    split at hts
    ·rename_i h6;cases hts;exact h1 (by omega)
    ·split at hts
     ·split at hts
      ·cases hts
      ·split at hts
       ·cases hts
       ·rename_i hn;cases hts;simp;omega
     ·rename_i h10;cases hts;exact h1 h10)
   clear HQ htw
   cases hwt:Kn.wtd ns ab d A E.length with
   |inr k=>
    rw [hwt] at HW HQ2
    have hk:=HWC.out k hwt
    obtain rfl:R=k:=HQ2.out
    clear HQ2 HWL HWC hwt
    go_enter Tryz.func125,Tryz.ntmps125
    go_wp2_with fail
    refine (HR.out _ ((Kp.refl _ _).alloc _)).mono ?_
    rintro e w1 ⟨rfl,k1⟩
    have K1:=hide (((Kp.refl [] w).alloc _).trans k1)
    obtain ⟨q0,q1,q2,q3,q4,q5,q6,q7,q8⟩:=(BQ.new w d at' N A B T (.slice aE E.length cE) uB uL 131).keep k1 (by simp)
    clear k1
    go_wp2_with fail
    refine (HU.out _ K1.out).mono ?_
    rintro e w2 ⟨rfl,k2⟩
    have K2:=hide (K1.out.trans k2)
    obtain ⟨p0,p1,p2,p3,p4,p5,p6,p7,p8⟩:=BQ.keep ⟨q0,q1,q2,q3,q4,q5,q6,q7,q8⟩ k2 (by simp)
    clear k2 q0 q1 q2 q3 q4 q5 q6 q7 q8
    go_wp2_with fail
    refine (HW.out _ K2.out).mono ?_
    rintro e w3 ⟨tv,k3,rfl,kk,hp⟩
    have K3:=hide (K2.out.trans kk)
    obtain ⟨q0,q1,q2,q3,q4,q5,q6,q7,q8⟩:=BQ.keep ⟨p0,p1,p2,p3,p4,p5,p6,p7,p8⟩ kk (by simp)
    clear kk p0 p1 p2 p3 p4 p5 p6 p7 p8
    obtain ⟨⟨ax,nx,cx,rfl⟩,rfl⟩:=hp
    have qk:(k3 !=0)=true:=by simpa using hk
    go_wp2
    go_ret
    exact ⟨rfl,K3.out⟩
   |inl ts=>
    rw [hwt] at HW HQ2
    have HEl:=hide (HWL.out ts hwt)
    have HQ3:Hid (R=if Kn.exs (m+1) ns E ts ≠ 0 then Kn.exs (m+1) ns E ts else Kn.cho d N T):=hide HQ2.out
    clear HQ2 HWL HWC hwt
    go_enter Tryz.func125,Tryz.ntmps125
    go_wp2_with fail
    refine (HR.out _ ((Kp.refl _ _).alloc _)).mono ?_
    rintro e w1 ⟨rfl,k1⟩
    have K1:=hide (((Kp.refl [] w).alloc _).trans k1)
    obtain ⟨q0,q1,q2,q3,q4,q5,q6,q7,q8⟩:=(BQ.new w d at' N A B T (.slice aE E.length cE) uB uL 131).keep k1 (by simp)
    clear k1
    go_wp2_with fail
    refine (HU.out _ K1.out).mono ?_
    rintro e w2 ⟨rfl,k2⟩
    have K2:=hide (K1.out.trans k2)
    obtain ⟨p0,p1,p2,p3,p4,p5,p6,p7,p8⟩:=BQ.keep ⟨q0,q1,q2,q3,q4,q5,q6,q7,q8⟩ k2 (by simp)
    clear k2 q0 q1 q2 q3 q4 q5 q6 q7 q8
    go_wp2_with fail
    refine (HW.out _ K2.out).mono ?_
    rintro e w3 ⟨tv,k3,rfl,kk,hp⟩
    have K3:=hide (K2.out.trans kk)
    obtain ⟨q0,q1,q2,q3,q4,q5,q6,q7,q8⟩:=BQ.keep ⟨p0,p1,p2,p3,p4,p5,p6,p7,p8⟩ kk (by simp)
    clear kk p0 p1 p2 p3 p4 p5 p6 p7 p8
    obtain ⟨⟨ax,cx,rfl,hts⟩,rfl⟩:=hp
    have HTS:=hide hts
    clear hts
    go_wp2
    go_loopw [36] (fun iv wr=> ∃ i:Nat,i≤E.length∧iv= .int .i64 i∧Hid (Kn.exs (m+1) ns E ts=Kn.exs (m+1) ns (E.drop i) (ts.drop i))∧Hid (Kp [] w3 wr)) (fun iv _=>E.length - (intOf iv).toNat)
    case atStart=>exact ⟨0,Nat.zero_le _,rfl,rfl,hide (Kp.refl _ _)⟩
    case round=>
     obtain ⟨i,hil,rfl,HF,HK⟩:=hrel
     by_cases hlt:i<E.length
     ·have d1:decide ((i:Int)<(E.length:Int))=true:=by simp;omega
      obtain ⟨b,off,op1,nm1,z1,L1,aL,cL,rfl,-,hd,m0,m1,m2,m3,hL⟩:=(HE.out.keep (K3.out.trans HK.out) (by simp)).nth i hlt
      have hit:i<ts.length:=Nat.lt_of_lt_of_le hlt HEl.out
      obtain ⟨ty,hty2⟩: ∃ ty,ts[i]? =some ty:=⟨_,List.getElem?_eq_getElem hit⟩
      obtain ⟨gt,ot,rfl,hct⟩:=HTS.out (fun e=>by rw [e] at hty2;cases hty2)
      have y0:=HK.out.some (hct i ty hty2) (by simp)
      have HXi:=hide (HX.out i _ hd)
      have HLe:=hide hL
      have HC:=hide (fun w' (hk:Kp [] wr w')=>kExpr_any c m w' P op1 z1 nm1 ty L1 aL cL vv bd ns t (HLe.out.keep hk (by simp)) HXi.out SB.out (H.out.kp (K3.out.trans (HK.out.trans hk))))
      have HFF:Hid (Kn.exs (m+1) ns E ts=if Kn.exc (m+1) ns (Sx.tE op1 nm1 z1 L1) ty ≠ 0 then Kn.exc (m+1) ns (Sx.tE op1 nm1 z1 L1) ty else Kn.exs (m+1) ns (E.drop (i+1)) (ts.drop (i+1))):=hide (by rw [HF.out,drop_nth hd,drop_nth hty2];rfl)
      have hk0:(0:Int)≤(i:Int):=by omega
      have hk1:(i:Int)<(E.length:Int):=by omega
      have hk2:(i:Int)<(ts.length:Int):=by omega
      generalize Kn.exc (m+1) ns (Sx.tE op1 nm1 z1 L1) ty=C at *
      clear hL hd hct hty2 HTS
      by_cases hC:C=0
      ·subst hC
       go_wp2
       go_region_held3 (fun w'=>w'.cell? ⟨wr.heap.size,0,none⟩=some (.int .i64 op1)∧w'.cell? ⟨wr.heap.size,1,none⟩=some (.string (bs nm1))∧w'.cell? ⟨wr.heap.size,2,none⟩=some (.int .i64 z1)∧w'.cell? ⟨wr.heap.size,3,none⟩=some (.slice aL L1.length cL)∧w'.cell? ⟨gt,ot+i,none⟩=some (.string (bs ty))) ((first|exact ⟨by assumption,by assumption,by assumption,by assumption,by assumption⟩|go_keep))
        ((go_at_call 152;refine (HC.out _ (by exact ((Kp.refl _ _).alloc _).drewN 1)).mono ?_;rintro e w4 ⟨rfl,k4⟩;have K4:=hide ((((Kp.refl [] wr).alloc _).drewN 1).trans k4);have s0:=k4.some (p:=⟨wr.heap.size,0,none⟩) (v:= .int .i64 op1) (by simp [go_sem]) (by simp);have s1:=k4.some (p:=⟨wr.heap.size,1,none⟩) (v:= .string (bs nm1)) (by simp [go_sem]) (by simp);have s2:=k4.some (p:=⟨wr.heap.size,2,none⟩) (v:= .int .i64 z1) (by simp [go_sem]) (by simp);have s3:=k4.some (p:=⟨wr.heap.size,3,none⟩) (v:= .slice aL L1.length cL) (by simp [go_sem]) (by simp);have s4:=K4.out.some y0 (by simp);clear k4))
       all_goals
        go_wp2
        go_roundw
        case rel=>exact ⟨i+1,by omega,by go_num,hide (by rw [HFF.out,if_neg (by simp)]),hide (HK.out.trans K4.out)⟩
        case measure=>simp [intOf];omega
      ·have q3:(C !=0)=true:=by simpa using hC
       have e1:R=C:=by rw [HQ3.out,HFF.out,if_pos hC,if_pos hC]
       subst e1
       clear HFF hC HQ3
       go_wp2
       go_region_held3 (fun w'=>w'.cell? ⟨wr.heap.size,0,none⟩=some (.int .i64 op1)∧w'.cell? ⟨wr.heap.size,1,none⟩=some (.string (bs nm1))∧w'.cell? ⟨wr.heap.size,2,none⟩=some (.int .i64 z1)∧w'.cell? ⟨wr.heap.size,3,none⟩=some (.slice aL L1.length cL)∧w'.cell? ⟨gt,ot+i,none⟩=some (.string (bs ty))) ((first|exact ⟨by assumption,by assumption,by assumption,by assumption,by assumption⟩|go_keep))
        ((go_at_call 152;refine (HC.out _ (by exact ((Kp.refl _ _).alloc _).drewN 1)).mono ?_;rintro e w4 ⟨rfl,k4⟩;have K4:=hide ((((Kp.refl [] wr).alloc _).drewN 1).trans k4);have s0:=k4.some (p:=⟨wr.heap.size,0,none⟩) (v:= .int .i64 op1) (by simp [go_sem]) (by simp);have s1:=k4.some (p:=⟨wr.heap.size,1,none⟩) (v:= .string (bs nm1)) (by simp [go_sem]) (by simp);have s2:=k4.some (p:=⟨wr.heap.size,2,none⟩) (v:= .int .i64 z1) (by simp [go_sem]) (by simp);have s3:=k4.some (p:=⟨wr.heap.size,3,none⟩) (v:= .slice aL L1.length cL) (by simp [go_sem]) (by simp);have s4:=K4.out.some y0 (by simp);clear k4))
       all_goals
        go_wp2
        go_ret
        exact ⟨rfl,K3.out.trans (HK.out.trans K4.out)⟩
     ·obtain rfl:i=E.length:=by omega
      have d1:decide ((E.length:Int)<(E.length:Int))=false:=by simp
      have e0:R=Kn.cho d N T:=by
       rw [HQ3.out,HF.out,List.drop_length]
       have:Kn.exs (m+1) ns [] (ts.drop E.length)=0:=by unfold Kn.exs;rfl
       rw [this,if_neg (by simp)]
      clear HQ3 HF
      obtain ⟨p0,p1,p2,p3,p4,p5,p6,p7,p8⟩:=BQ.keep ⟨q0,q1,q2,q3,q4,q5,q6,q7,q8⟩ HK.out (by simp)
      unfold Kn.cho at e0
      by_cases h4:d=4
      ·have g4:(d !=4)=false:=by simpa using h4
       rw [if_neg (by simpa using h4)] at e0
       by_cases hN:N<1∨5<N
       ·rw [if_pos hN] at e0
        subst e0
        by_cases hN1:N<1
        ·have g5:decide (N<1)=true:=by simpa using hN1
         clear h4 hN hN1
         go_wp2
         go_ret
         exact ⟨rfl,K3.out.trans HK.out⟩
        ·have g5:decide (N<1)=false:=by simpa using hN1
         have g6:decide (5<N)=true:=by simp;omega
         clear h4 hN hN1
         go_wp2
         go_ret
         exact ⟨rfl,K3.out.trans HK.out⟩
       ·rw [if_neg hN] at e0
        have g5:decide (N<1)=false:=by simp;omega
        have g6:decide (5<N)=false:=by simp;omega
        have HTy:=hide (fun w'=>rType_any T 2 w' (by omega))
        clear h4 hN
        cases hi:Rn.isT T 2 with
        |true=>
         rw [hi] at HTy e0
         obtain rfl:R=0:=e0
         clear hi
         go_wp2_with fail
         refine (HTy.out _).mono ?_
         rintro e w4 ⟨rfl,k4⟩
         have K4:=hide k4
         clear k4
         go_wp2
         go_ret
         exact ⟨rfl,K3.out.trans (HK.out.trans K4.out)⟩
        |false=>
         rw [hi] at HTy e0
         obtain rfl:R=11:=e0
         clear hi
         go_wp2_with fail
         refine (HTy.out _).mono ?_
         rintro e w4 ⟨rfl,k4⟩
         have K4:=hide k4
         clear k4
         go_wp2
         go_ret
         exact ⟨rfl,K3.out.trans (HK.out.trans K4.out)⟩
      ·have g4:(d !=4)=true:=by simpa using h4
       rw [if_pos h4] at e0
       subst e0
       clear h4
       go_wp2
       go_ret
       exact ⟨rfl,K3.out.trans HK.out⟩
  ·have hR:R=U:=by rw [HQ.out,if_neg (by simp),if_pos hU]
   subst hR
   have qU:(R !=0)=true:=by simpa using hU
   clear HQ hU htw HW
   go_enter Tryz.func125,Tryz.ntmps125
   go_wp2_with fail
   refine (HR.out _ ((Kp.refl _ _).alloc _)).mono ?_
   rintro e w1 ⟨rfl,k1⟩
   have K1:=hide (((Kp.refl [] w).alloc _).trans k1)
   obtain ⟨q0,q1,q2,q3,q4,q5,q6,q7,q8⟩:=(BQ.new w d at' N A B T (.slice aE E.length cE) uB uL 131).keep k1 (by simp)
   clear k1
   go_wp2_with fail
   refine (HU.out _ K1.out).mono ?_
   rintro e w2 ⟨rfl,k2⟩
   have K2:=hide (K1.out.trans k2)
   obtain ⟨p0,p1,p2,p3,p4,p5,p6,p7,p8⟩:=BQ.keep ⟨q0,q1,q2,q3,q4,q5,q6,q7,q8⟩ k2 (by simp)
   clear k2 q0 q1 q2 q3 q4 q5 q6 q7 q8
   go_wp2
   go_ret
   exact ⟨rfl,K2.out⟩
end Go.Proofs.YtbhhkaobkdeolaaGreatDoor
