import Derived.Test.YthcapfojofahkaaGreatDoorMaj
import Derived.Test.YthcapfojofahkaaGreatDoorMba
import Derived.Deep.RegionHeld3
namespace Go.Proofs.YthcapfojofahkaaGreatDoor
open Go.RowKit Go.Maps Go.ChangeMaps
theorem kExprCodeC_any (x:Nat) (a b:List UInt8) (w:World) (h:w.cell? ⟨x,0,none⟩=some (.string (bs b))):
  Calls Tryz.prog 144 #[.string (bs a),.pointer (some ⟨x,0,none⟩)] w fun e w'=>e= .returned (.bool (decide (a=b)))∧Kp [] w w':=by
 have q:((bs a).toList == (bs b).toList)=decide (a=b):=by rw [bsl,bsl];by_cases e:a=b<;> simp [e]
 go_enter Tryz.func144,Tryz.ntmps144
 go_wp2
 go_ret
 exact ⟨by first|rfl|rw [q],Kp.refl _ _⟩
theorem pre_one (a:List UInt8) (b:UInt8):Lib.hasPrefix (bs a).data.toList (bs [b]).data.toList=decide (a.head? =some b):=by
 show Lib.hasPrefix a [b]=_
 unfold Lib.hasPrefix
 cases a with
 |nil=>rfl
 |cons x r=>
  show (b == x && true)=_
  by_cases e:b=x
  ·subst e;simp
  ·have e':x ≠ b:=fun h=>e h.symm
   simp [e,e']
theorem kUsedCodeD_any (x:Nat) (a:List UInt8) (b:UInt8) (w:World) (h:w.cell? ⟨x,0,none⟩=some (.string (bs [b]))):
  Calls Tryz.prog 141 #[.string (bs a),.pointer (some ⟨x,0,none⟩)] w fun e w'=>e= .returned (.bool (decide (a.head? =some b)))∧Kp [] w w':=by
 have HP:=hide (fun w=>hasPrefix_any (bs a) (bs [b]) w)
 rw [pre_one] at HP
 go_enter Tryz.func141,Tryz.ntmps141
 go_wp2_with fail
 refine (HP.out _).mono ?_
 rintro e w1 ⟨rfl,rfl⟩
 go_wp2
 go_ret
 exact ⟨rfl,Kp.refl _ _⟩
namespace Kn
def tc (ns:List Nv) (nm t:List UInt8):Int:=if typ ns nm=[] then 10 else if typ ns nm ≠ t then 11 else 0
def exc:Nat→List Nv→Sx.Tr→List UInt8→Int
 |0,_,_,_=>0
 |n+1,ns,d,t=>if (Sx.eH d).1=2 then tc ns (Sx.eH d).2.1 t else if t ≠ [105] then 11 else Rn.firstOf (fun x=>exc n ns x [105]) (Sx.eL d)
end Kn
set_option maxRecDepth 100000 in
set_option maxHeartbeats 1000000 in
theorem kCode_eq (c:Kg) (w:World) (vv:Value) (bd ns:List Kn.Nv) (t:Nat) (nm ty:List UInt8) (x:Nat) (h:KS c w vv bd (Kn.fkn ns bd) t) (hs:Kn.Sb ns bd) (hl:nm.length≤1000000) (hx:w.cell? ⟨x,0,none⟩=some (.string (bs ty))):
  Calls Tryz.prog 142 #[.pointer (some ⟨c.g,0,none⟩),.string (bs nm),.func (.func 144) #[] #[.pointer (some ⟨x,0,none⟩)]] w fun e w'=>e= .returned (.int .i64 (Kn.tc ns nm ty))∧Kp [] w w':=by
 have HT:=hide (kTypeOf_any c w vv bd ns t nm h hs hl)
 unfold Kn.tc
 generalize Kn.typ ns nm=T at *
 have e0:(bs ([]:List UInt8)).toList=[]:=bs0
 have HC:=hide (fun w' (hk:Kp [] w w')=>kExprCodeC_any x T ty w' (hk.some hx (by simp)))
 clear h hs
 by_cases h0:T=[]
 ·subst h0
  rw [if_pos rfl]
  go_enter Tryz.func142,Tryz.ntmps142
  go_wp2_with fail
  refine HT.out.mono ?_
  rintro e w1 ⟨rfl,k1⟩
  have K1:=hide k1
  clear k1
  go_wp2
  go_ret
  exact ⟨rfl,K1.out⟩
 ·have q0:((bs T).toList == [])=false:=by rw [bsl];simpa using h0
  rw [if_neg h0]
  by_cases h1:T=ty
  ·rw [if_neg (by simpa using h1)]
   have d1:decide (T=ty)=true:=by simpa using h1
   rw [d1] at HC
   clear d1 h1
   go_enter Tryz.func142,Tryz.ntmps142
   go_wp2_with fail
   refine HT.out.mono ?_
   rintro e w1 ⟨rfl,k1⟩
   have K1:=hide k1
   clear k1
   go_wp2_with fail
   refine (HC.out _ K1.out).mono ?_
   rintro e w2 ⟨rfl,k2⟩
   have K2:=hide k2
   clear k2
   go_wp2
   go_ret
   exact ⟨rfl,K1.out.trans K2.out⟩
  ·rw [if_pos h1]
   have d1:decide (T=ty)=false:=by simpa using h1
   rw [d1] at HC
   clear d1 h1
   go_enter Tryz.func142,Tryz.ntmps142
   go_wp2_with fail
   refine HT.out.mono ?_
   rintro e w1 ⟨rfl,k1⟩
   have K1:=hide k1
   clear k1
   go_wp2_with fail
   refine (HC.out _ K1.out).mono ?_
   rintro e w2 ⟨rfl,k2⟩
   have K2:=hide k2
   clear k2
   go_wp2
   go_ret
   exact ⟨rfl,K1.out.trans K2.out⟩
set_option maxRecDepth 100000 in
set_option maxHeartbeats 1000000 in
theorem kCode_pre (c:Kg) (w:World) (vv:Value) (bd ns:List Kn.Nv) (t:Nat) (nm:List UInt8) (b:UInt8) (x:Nat) (h:KS c w vv bd (Kn.fkn ns bd) t) (hs:Kn.Sb ns bd) (hl:nm.length≤1000000) (hx:w.cell? ⟨x,0,none⟩=some (.string (bs [b]))):
  Calls Tryz.prog 142 #[.pointer (some ⟨c.g,0,none⟩),.string (bs nm),.func (.func 141) #[] #[.pointer (some ⟨x,0,none⟩)]] w fun e w'=>e= .returned (.int .i64 (Kn.mst ns nm b))∧Kp [] w w':=by
 have HT:=hide (kTypeOf_any c w vv bd ns t nm h hs hl)
 unfold Kn.mst
 generalize Kn.typ ns nm=T at *
 have e0:(bs ([]:List UInt8)).toList=[]:=bs0
 have HC:=hide (fun w' (hk:Kp [] w w')=>kUsedCodeD_any x T b w' (hk.some hx (by simp)))
 clear h hs
 by_cases h0:T=[]
 ·subst h0
  rw [if_pos rfl]
  go_enter Tryz.func142,Tryz.ntmps142
  go_wp2_with fail
  refine HT.out.mono ?_
  rintro e w1 ⟨rfl,k1⟩
  have K1:=hide k1
  clear k1
  go_wp2
  go_ret
  exact ⟨rfl,K1.out⟩
 ·have q0:((bs T).toList == [])=false:=by rw [bsl];simpa using h0
  rw [if_neg h0]
  by_cases h1:T.head? =some b
  ·rw [if_neg (by simpa using h1)]
   have d1:decide (T.head? =some b)=true:=by simpa using h1
   rw [d1] at HC
   clear d1 h1
   go_enter Tryz.func142,Tryz.ntmps142
   go_wp2_with fail
   refine HT.out.mono ?_
   rintro e w1 ⟨rfl,k1⟩
   have K1:=hide k1
   clear k1
   go_wp2_with fail
   refine (HC.out _ K1.out).mono ?_
   rintro e w2 ⟨rfl,k2⟩
   have K2:=hide k2
   clear k2
   go_wp2
   go_ret
   exact ⟨rfl,K1.out.trans K2.out⟩
  ·rw [if_pos h1]
   have d1:decide (T.head? =some b)=false:=by simpa using h1
   rw [d1] at HC
   clear d1 h1
   go_enter Tryz.func142,Tryz.ntmps142
   go_wp2_with fail
   refine HT.out.mono ?_
   rintro e w1 ⟨rfl,k1⟩
   have K1:=hide k1
   clear k1
   go_wp2_with fail
   refine (HC.out _ K1.out).mono ?_
   rintro e w2 ⟨rfl,k2⟩
   have K2:=hide k2
   clear k2
   go_wp2
   go_ret
   exact ⟨rfl,K1.out.trans K2.out⟩
end Go.Proofs.YthcapfojofahkaaGreatDoor
namespace Go.Proofs.YthcapfojofahkaaGreatDoor
open Go.RowKit Go.Maps Go.ChangeMaps
theorem Kn.xk {n:Nat} {op z:Int} {nm:List UInt8} {L:List Sx.Tr} (h:Rn.xf (n+1) (Sx.tE op nm z L)=0):L.length≤2∧(op=2→L=[]∧nm.length≤12)∧ ∀ (i:Nat) x,L[i]? =some x→Rn.xf n x=0:=by
 have hx:Rn.xf (n+1) (Sx.tE op nm z L)=if op<1∨8<op∨L.length ≠ Rn.want op∨(z ≠ 0∧op ≠ 1)∨(nm ≠ []∧op ≠ 2) then (5:Int)
   else if op=2∧Tk.isN nm=false then 4
   else if z<0∨1000000000000000000≤z then 3
   else Rn.firstOf (Rn.xf n) L:=rfl
 rw [hx] at h
 split at h
 ·cases h
 rename_i hb
 split at h
 ·cases h
 rename_i hn
 split at h
 ·cases h
 have hs:=Rn.firstOf_zero h
 have hw:L.length=Rn.want op:=Decidable.byContradiction fun hc=>hb (.inr (.inr (.inl hc)))
 refine ⟨?_,fun h2=>⟨?_,?_⟩,fun i x hx=>hs x (List.mem_of_getElem? hx)⟩
 ·rw [hw];unfold Rn.want;split<;> try split
  all_goals omega
 ·rw [h2] at hw;exact List.length_eq_zero_iff.1 hw
 ·have hN:Tk.isN nm=true:=by
   cases hh:Tk.isN nm with
   |true=>rfl
   |false=>exact absurd ⟨h2,hh⟩ hn
  exact Rn.isN_len hN
def ExT (c:Kg) (n:Nat):Prop:= ∀ (w:World) (P:Nat→Prop) (op z:Int) (nm ty:List UInt8) (L:List Sx.Tr) (a:Option Addr) (k:Nat) (vv:Value) (bd ns:List Kn.Nv) (t:Nat),EL w P n L (.slice a L.length k)→Rn.xf (n+1) (Sx.tE op nm z L)=0→Kn.Sb ns bd→KS c w vv bd (Kn.fkn ns bd) t→
 Calls Tryz.prog 122 #[.pointer (some ⟨c.g,0,none⟩),.agg #[.int .i64 op,.string (bs nm),.int .i64 z,.slice a L.length k],.string (bs ty)] w fun e w'=>e= .returned (.int .i64 (Kn.exc (n+1) ns (Sx.tE op nm z L) ty))∧Kp [] w w'
set_option maxRecDepth 100000 in
set_option maxHeartbeats 1000000 in
theorem kExpr_step (c:Kg) (n:Nat) (ih:ExT c n):ExT c (n+1):=by
 intro w P op z nm ty L a k vv bd ns t h hx hsb hks
 obtain ⟨hl,h2,hr⟩:=Kn.xk hx
 have HR:=hide hr
 have HS:=hide h
 have IH:=hide ih
 have H:=hide hks
 have SB:=hide hsb
 have HE:Kn.exc (n+1+1) ns (Sx.tE op nm z L) ty=if op=2 then Kn.tc ns nm ty else if ty ≠ [105] then 11 else Rn.firstOf (fun x=>Kn.exc (n+1) ns x [105]) L:=rfl
 rw [HE]
 have hmf: ∀ (fn:Fn) (first cap:Array Value) (w:World),(Instr.makeFunc fn first cap).run Tryz.prog w= .ok (.func fn first cap) w:=fun _ _ _ _=>rfl
 clear h ih hks hsb HE hr hx
 by_cases o2:op=2
 ·rw [if_pos o2]
  subst o2
  have hln:=(h2 rfl).2
  have HC:=hide (fun w' x (hk:Kp [] w w') hx=>kCode_eq c w' vv bd ns t nm ty x (H.out.kp hk) SB.out (by omega) hx)
  clear h2
  go_enter Tryz.func122,Tryz.ntmps122
  go_wp2_with fail
  refine (HC.out _ _ (((Kp.refl _ _).alloc _).alloc _) (by simp [go_sem])).mono ?_
  rintro e w1 ⟨rfl,k1⟩
  have K1:=hide ((((Kp.refl [] w).alloc _).alloc _).trans k1)
  clear k1
  go_wp2
  go_ret
  exact ⟨rfl,K1.out⟩
 ·rw [if_neg o2]
  have q2:(op == 2)=false:=by simpa using o2
  clear h2
  by_cases hi:ty=[105]
  ·subst hi
   rw [if_neg (by simp)]
   have qi:((bs [105]).toList == [105])=true:=by rw [bsl];rfl
   go_enter Tryz.func122,Tryz.ntmps122
   go_wp2
   go_loopw [23] (fun iv wr=> ∃ i:Nat,i≤L.length∧iv= .int .i64 i∧Hid (Rn.firstOf (fun x=>Kn.exc (n+1) ns x [105]) L=Rn.firstOf (fun x=>Kn.exc (n+1) ns x [105]) (L.drop i))∧Hid (Kp [] w wr)) (fun iv _=>L.length - (intOf iv).toNat)
   case atStart=>exact ⟨0,Nat.zero_le _,rfl,rfl,hide (((Kp.refl _ _).alloc _).alloc _)⟩
   case round=>
    obtain ⟨i,hil,rfl,HF,HK⟩:=hrel
    by_cases hlt:i<L.length
    ·have d1:decide ((i:Int)<(L.length:Int))=true:=by simp;omega
     obtain ⟨b,off,op1,nm1,z1,L1,aL,cL,rfl,-,hd,m0,m1,m2,m3,hL⟩:=(HS.out.keep HK.out (by simp)).nth i hlt
     have HX:=hide (HR.out i _ hd)
     have HLe:=hide hL
     have HC:=hide (fun w' (hk:Kp [] wr w')=>IH.out w' P op1 z1 nm1 [105] L1 aL cL vv bd ns t (HLe.out.keep hk (by simp)) HX.out SB.out (H.out.kp (HK.out.trans hk)))
     have HDR:=hide (drop_nth hd)
     have HFF:Hid (Rn.firstOf (fun x=>Kn.exc (n+1) ns x [105]) L=if Kn.exc (n+1) ns (Sx.tE op1 nm1 z1 L1) [105] ≠ 0 then Kn.exc (n+1) ns (Sx.tE op1 nm1 z1 L1) [105] else Rn.firstOf (fun x=>Kn.exc (n+1) ns x [105]) (L.drop (i+1))):=hide (by rw [HF.out,HDR.out];rfl)
     have hk0:(0:Int)≤(i:Int):=by omega
     have hk1:(i:Int)<(L.length:Int):=by omega
     generalize Kn.exc (n+1) ns (Sx.tE op1 nm1 z1 L1) [105]=C at *
     clear hL hd HDR HX
     go_wp2_with fail
     refine (HC.out _ ((Kp.refl _ _).alloc _)).mono ?_
     rintro e w2 ⟨rfl,k2⟩
     have K2:=hide (HK.out.trans (((Kp.refl [] wr).alloc _).trans k2))
     clear k2
     by_cases hC:C=0
     ·subst hC
      go_wp2
      go_roundw
      case rel=>exact ⟨i+1,by omega,by go_num,hide (by rw [HFF.out,if_neg (by simp)]),K2⟩
      case measure=>simp [intOf];omega
     ·have q3:(C !=0)=true:=by simpa using hC
      have e1:=HFF.out
      rw [if_pos hC] at e1
      clear HFF hC
      go_wp2
      go_ret
      exact ⟨by rw [e1];rfl,K2.out⟩
    ·obtain rfl:i=L.length:=by omega
     have d1:decide ((L.length:Int)<(L.length:Int))=false:=by simp
     go_wp2
     go_ret
     refine ⟨?_,HK.out⟩
     rw [HF.out,List.drop_length]
     rfl
  ·rw [if_pos hi]
   have qi:((bs ty).toList == [105])=false:=by rw [bsl];simpa using hi
   go_enter Tryz.func122,Tryz.ntmps122
   go_wp2
   go_ret
   exact ⟨rfl,((Kp.refl _ _).alloc _).alloc _⟩
theorem kExpr_any (c:Kg) (n:Nat):ExT c n:=by
 induction n with
 |zero=>intro w P op z nm ty L a k vv bd ns t h;cases h
 |succ n ih=>exact kExpr_step c n ih
end Go.Proofs.YthcapfojofahkaaGreatDoor
namespace Go.Proofs.YthcapfojofahkaaGreatDoor
open Go.RowKit Go.Maps Go.ChangeMaps
theorem kUsedCodeC_any (b:UInt8) (w:World):
  Calls Tryz.prog 140 #[.string (bs [b])] w fun e w'=>e= .returned (.func (.func 141) #[] #[.pointer (some ⟨w.heap.size,0,none⟩)])∧w'=w.alloc (.cells #[.string (bs [b])] 9):=by
 have hmf: ∀ (fn:Fn) (first cap:Array Value) (w:World),(Instr.makeFunc fn first cap).run Tryz.prog w= .ok (.func fn first cap) w:=fun _ _ _ _=>rfl
 go_enter Tryz.func140,Tryz.ntmps140
 go_wp2
 go_ret
 exact ⟨rfl,rfl⟩
def UsT (d:Int):Prop:= ∀ (c:Kg) (w:World) (at':Int) (A B T:List UInt8) (N:Int) (E body els:List Sx.Tr) (uE uB uL vv:Value) (bd ns:List Kn.Nv) (t:Nat),A.length≤12→B.length≤12→Kn.Sb ns bd→KS c w vv bd (Kn.fkn ns bd) t→
 Calls Tryz.prog 120 #[.pointer (some ⟨c.g,0,none⟩),.agg #[.int .i64 d,.int .i64 at',.string (bs A),.string (bs B),.string (bs T),.int .i64 N,uE,uB,uL]] w fun e w'=>e= .returned (.int .i64 (Kn.usedF ns (Sx.tS d at' A B T N E body els)))∧Kp [] w w'
set_option maxRecDepth 100000 in
set_option maxHeartbeats 1000000 in
theorem used_1:UsT 1:=by
 intro c w at' A B T N E body els uE uB uL vv bd ns t hA hB hs h
 have e1:Kn.usedF ns (Sx.tS 1 at' A B T N E body els)=0:=rfl
 rw [e1]
 clear h
 go_enter Tryz.func120,Tryz.ntmps120
 go_wp2
 go_ret
 exact ⟨rfl,(Kp.refl _ _).alloc _⟩
set_option maxRecDepth 100000 in
set_option maxHeartbeats 1000000 in
theorem used_2:UsT 2:=by
 intro c w at' A B T N E body els uE uB uL vv bd ns t hA hB hs h
 have e1:Kn.usedF ns (Sx.tS 2 at' A B T N E body els)=Kn.mst ns A 105:=rfl
 rw [e1]
 have H:=hide h
 have SB:=hide hs
 have H1:=hide (fun w=>kUsedCodeC_any 105 w)
 have H2:=hide (fun w' x (hk:Kp [] w w') hx=>kCode_pre c w' vv bd ns t A 105 x (H.out.kp hk) SB.out (by omega) hx)
 clear h hs
 go_enter Tryz.func120,Tryz.ntmps120
 go_wp2
 go_region_held3 (fun w'=>w'.cell? ⟨w.heap.size,2,none⟩=some (.string (bs A))) ((first|assumption|go_keep))
  ((first|(go_at_call 140;refine (H1.out _).mono ?_;rintro e w2 ⟨rfl,rfl⟩)|(go_at_call 142;refine (H2.out _ _ (by exact ((((Kp.refl _ _).alloc _).alloc _).drewN 1)) (by simp [go_sem])).mono ?_;rintro e w2 ⟨rfl,k2⟩;have K2:=hide ((((((Kp.refl [] w).alloc _).alloc _).drewN 1)).trans k2);have s2:w2.cell? ⟨w.heap.size,2,none⟩=some (.string (bs A)):=k2.some (by simp [go_sem]) (by simp);clear k2)))
 all_goals
  go_wp2
  go_ret
  exact ⟨rfl,K2.out⟩
set_option maxRecDepth 100000 in
set_option maxHeartbeats 1000000 in
theorem used_3:UsT 3:=by
 intro c w at' A B T N E body els uE uB uL vv bd ns t hA hB hs h
 have e1:Kn.usedF ns (Sx.tS 3 at' A B T N E body els)=0:=rfl
 rw [e1]
 clear h
 go_enter Tryz.func120,Tryz.ntmps120
 go_wp2
 go_ret
 exact ⟨rfl,(Kp.refl _ _).alloc _⟩
set_option maxRecDepth 100000 in
set_option maxHeartbeats 1000000 in
theorem used_4:UsT 4:=by
 intro c w at' A B T N E body els uE uB uL vv bd ns t hA hB hs h
 have e1:Kn.usedF ns (Sx.tS 4 at' A B T N E body els)=0:=rfl
 rw [e1]
 clear h
 go_enter Tryz.func120,Tryz.ntmps120
 go_wp2
 go_ret
 exact ⟨rfl,(Kp.refl _ _).alloc _⟩
set_option maxRecDepth 100000 in
set_option maxHeartbeats 1000000 in
theorem used_5:UsT 5:=by
 intro c w at' A B T N E body els uE uB uL vv bd ns t hA hB hs h
 have e1:Kn.usedF ns (Sx.tS 5 at' A B T N E body els)=Kn.mst ns B 115:=rfl
 rw [e1]
 have H:=hide h
 have SB:=hide hs
 have H1:=hide (fun w=>kUsedCodeC_any 115 w)
 have H2:=hide (fun w' x (hk:Kp [] w w') hx=>kCode_pre c w' vv bd ns t B 115 x (H.out.kp hk) SB.out (by omega) hx)
 clear h hs
 go_enter Tryz.func120,Tryz.ntmps120
 go_wp2
 go_region_held3 (fun w'=>w'.cell? ⟨w.heap.size,3,none⟩=some (.string (bs B))) ((first|assumption|go_keep))
  ((first|(go_at_call 140;refine (H1.out _).mono ?_;rintro e w2 ⟨rfl,rfl⟩)|(go_at_call 142;refine (H2.out _ _ (by exact ((((Kp.refl _ _).alloc _).alloc _).drewN 1)) (by simp [go_sem])).mono ?_;rintro e w2 ⟨rfl,k2⟩;have K2:=hide ((((((Kp.refl [] w).alloc _).alloc _).drewN 1)).trans k2);have s2:w2.cell? ⟨w.heap.size,3,none⟩=some (.string (bs B)):=k2.some (by simp [go_sem]) (by simp);clear k2)))
 all_goals
  go_wp2
  go_ret
  exact ⟨rfl,K2.out⟩
set_option maxRecDepth 100000 in
set_option maxHeartbeats 1000000 in
theorem used_6:UsT 6:=by
 intro c w at' A B T N E body els uE uB uL vv bd ns t hA hB hs h
 have e1:Kn.usedF ns (Sx.tS 6 at' A B T N E body els)=Kn.mst ns A 115:=rfl
 rw [e1]
 have H:=hide h
 have SB:=hide hs
 have H1:=hide (fun w=>kUsedCodeC_any 115 w)
 have H2:=hide (fun w' x (hk:Kp [] w w') hx=>kCode_pre c w' vv bd ns t A 115 x (H.out.kp hk) SB.out (by omega) hx)
 clear h hs
 go_enter Tryz.func120,Tryz.ntmps120
 go_wp2
 go_region_held3 (fun w'=>w'.cell? ⟨w.heap.size,2,none⟩=some (.string (bs A))) ((first|assumption|go_keep))
  ((first|(go_at_call 140;refine (H1.out _).mono ?_;rintro e w2 ⟨rfl,rfl⟩)|(go_at_call 142;refine (H2.out _ _ (by exact ((((Kp.refl _ _).alloc _).alloc _).drewN 1)) (by simp [go_sem])).mono ?_;rintro e w2 ⟨rfl,k2⟩;have K2:=hide ((((((Kp.refl [] w).alloc _).alloc _).drewN 1)).trans k2);have s2:w2.cell? ⟨w.heap.size,2,none⟩=some (.string (bs A)):=k2.some (by simp [go_sem]) (by simp);clear k2)))
 all_goals
  go_wp2
  go_ret
  exact ⟨rfl,K2.out⟩
set_option maxRecDepth 100000 in
set_option maxHeartbeats 1000000 in
theorem used_7:UsT 7:=by
 intro c w at' A B T N E body els uE uB uL vv bd ns t hA hB hs h
 have e1:Kn.usedF ns (Sx.tS 7 at' A B T N E body els)=Kn.mst ns A 115:=rfl
 rw [e1]
 have H:=hide h
 have SB:=hide hs
 have H1:=hide (fun w=>kUsedCodeC_any 115 w)
 have H2:=hide (fun w' x (hk:Kp [] w w') hx=>kCode_pre c w' vv bd ns t A 115 x (H.out.kp hk) SB.out (by omega) hx)
 clear h hs
 go_enter Tryz.func120,Tryz.ntmps120
 go_wp2
 go_region_held3 (fun w'=>w'.cell? ⟨w.heap.size,2,none⟩=some (.string (bs A))) ((first|assumption|go_keep))
  ((first|(go_at_call 140;refine (H1.out _).mono ?_;rintro e w2 ⟨rfl,rfl⟩)|(go_at_call 142;refine (H2.out _ _ (by exact ((((Kp.refl _ _).alloc _).alloc _).drewN 1)) (by simp [go_sem])).mono ?_;rintro e w2 ⟨rfl,k2⟩;have K2:=hide ((((((Kp.refl [] w).alloc _).alloc _).drewN 1)).trans k2);have s2:w2.cell? ⟨w.heap.size,2,none⟩=some (.string (bs A)):=k2.some (by simp [go_sem]) (by simp);clear k2)))
 all_goals
  go_wp2
  go_ret
  exact ⟨rfl,K2.out⟩
set_option maxRecDepth 100000 in
set_option maxHeartbeats 1000000 in
theorem used_8:UsT 8:=by
 intro c w at' A B T N E body els uE uB uL vv bd ns t hA hB hs h
 have e1:Kn.usedF ns (Sx.tS 8 at' A B T N E body els)=Kn.mst ns A 114:=rfl
 rw [e1]
 have H:=hide h
 have SB:=hide hs
 have H1:=hide (fun w=>kUsedCodeC_any 114 w)
 have H2:=hide (fun w' x (hk:Kp [] w w') hx=>kCode_pre c w' vv bd ns t A 114 x (H.out.kp hk) SB.out (by omega) hx)
 clear h hs
 go_enter Tryz.func120,Tryz.ntmps120
 go_wp2
 go_region_held3 (fun w'=>w'.cell? ⟨w.heap.size,2,none⟩=some (.string (bs A))) ((first|assumption|go_keep))
  ((first|(go_at_call 140;refine (H1.out _).mono ?_;rintro e w2 ⟨rfl,rfl⟩)|(go_at_call 142;refine (H2.out _ _ (by exact ((((Kp.refl _ _).alloc _).alloc _).drewN 1)) (by simp [go_sem])).mono ?_;rintro e w2 ⟨rfl,k2⟩;have K2:=hide ((((((Kp.refl [] w).alloc _).alloc _).drewN 1)).trans k2);have s2:w2.cell? ⟨w.heap.size,2,none⟩=some (.string (bs A)):=k2.some (by simp [go_sem]) (by simp);clear k2)))
 all_goals
  go_wp2
  go_ret
  exact ⟨rfl,K2.out⟩
set_option maxRecDepth 100000 in
set_option maxHeartbeats 1000000 in
theorem used_9:UsT 9:=by
 intro c w at' A B T N E body els uE uB uL vv bd ns t hA hB hs h
 have e1:Kn.usedF ns (Sx.tS 9 at' A B T N E body els)=Kn.mst ns A 114:=rfl
 rw [e1]
 have H:=hide h
 have SB:=hide hs
 have H1:=hide (fun w=>kUsedCodeC_any 114 w)
 have H2:=hide (fun w' x (hk:Kp [] w w') hx=>kCode_pre c w' vv bd ns t A 114 x (H.out.kp hk) SB.out (by omega) hx)
 clear h hs
 go_enter Tryz.func120,Tryz.ntmps120
 go_wp2
 go_region_held3 (fun w'=>w'.cell? ⟨w.heap.size,2,none⟩=some (.string (bs A))) ((first|assumption|go_keep))
  ((first|(go_at_call 140;refine (H1.out _).mono ?_;rintro e w2 ⟨rfl,rfl⟩)|(go_at_call 142;refine (H2.out _ _ (by exact ((((Kp.refl _ _).alloc _).alloc _).drewN 1)) (by simp [go_sem])).mono ?_;rintro e w2 ⟨rfl,k2⟩;have K2:=hide ((((((Kp.refl [] w).alloc _).alloc _).drewN 1)).trans k2);have s2:w2.cell? ⟨w.heap.size,2,none⟩=some (.string (bs A)):=k2.some (by simp [go_sem]) (by simp);clear k2)))
 all_goals
  go_wp2
  go_ret
  exact ⟨rfl,K2.out⟩
set_option maxRecDepth 100000 in
set_option maxHeartbeats 1000000 in
theorem used_10:UsT 10:=by
 intro c w at' A B T N E body els uE uB uL vv bd ns t hA hB hs h
 have e1:Kn.usedF ns (Sx.tS 10 at' A B T N E body els)=0:=rfl
 rw [e1]
 clear h
 go_enter Tryz.func120,Tryz.ntmps120
 go_wp2
 go_ret
 exact ⟨rfl,(Kp.refl _ _).alloc _⟩
set_option maxRecDepth 100000 in
set_option maxHeartbeats 1000000 in
theorem used_11:UsT 11:=by
 intro c w at' A B T N E body els uE uB uL vv bd ns t hA hB hs h
 have e1:Kn.usedF ns (Sx.tS 11 at' A B T N E body els)=Kn.mst ns B 114:=rfl
 rw [e1]
 have H:=hide h
 have SB:=hide hs
 have H1:=hide (fun w=>kUsedCodeC_any 114 w)
 have H2:=hide (fun w' x (hk:Kp [] w w') hx=>kCode_pre c w' vv bd ns t B 114 x (H.out.kp hk) SB.out (by omega) hx)
 clear h hs
 go_enter Tryz.func120,Tryz.ntmps120
 go_wp2
 go_region_held3 (fun w'=>w'.cell? ⟨w.heap.size,3,none⟩=some (.string (bs B))) ((first|assumption|go_keep))
  ((first|(go_at_call 140;refine (H1.out _).mono ?_;rintro e w2 ⟨rfl,rfl⟩)|(go_at_call 142;refine (H2.out _ _ (by exact ((((Kp.refl _ _).alloc _).alloc _).drewN 1)) (by simp [go_sem])).mono ?_;rintro e w2 ⟨rfl,k2⟩;have K2:=hide ((((((Kp.refl [] w).alloc _).alloc _).drewN 1)).trans k2);have s2:w2.cell? ⟨w.heap.size,3,none⟩=some (.string (bs B)):=k2.some (by simp [go_sem]) (by simp);clear k2)))
 all_goals
  go_wp2
  go_ret
  exact ⟨rfl,K2.out⟩
set_option maxRecDepth 100000 in
set_option maxHeartbeats 1000000 in
theorem used_12:UsT 12:=by
 intro c w at' A B T N E body els uE uB uL vv bd ns t hA hB hs h
 have e1:Kn.usedF ns (Sx.tS 12 at' A B T N E body els)=Kn.mst ns B 114:=rfl
 rw [e1]
 have H:=hide h
 have SB:=hide hs
 have H1:=hide (fun w=>kUsedCodeC_any 114 w)
 have H2:=hide (fun w' x (hk:Kp [] w w') hx=>kCode_pre c w' vv bd ns t B 114 x (H.out.kp hk) SB.out (by omega) hx)
 clear h hs
 go_enter Tryz.func120,Tryz.ntmps120
 go_wp2
 go_region_held3 (fun w'=>w'.cell? ⟨w.heap.size,3,none⟩=some (.string (bs B))) ((first|assumption|go_keep))
  ((first|(go_at_call 140;refine (H1.out _).mono ?_;rintro e w2 ⟨rfl,rfl⟩)|(go_at_call 142;refine (H2.out _ _ (by exact ((((Kp.refl _ _).alloc _).alloc _).drewN 1)) (by simp [go_sem])).mono ?_;rintro e w2 ⟨rfl,k2⟩;have K2:=hide ((((((Kp.refl [] w).alloc _).alloc _).drewN 1)).trans k2);have s2:w2.cell? ⟨w.heap.size,3,none⟩=some (.string (bs B)):=k2.some (by simp [go_sem]) (by simp);clear k2)))
 all_goals
  go_wp2
  go_ret
  exact ⟨rfl,K2.out⟩
set_option maxRecDepth 100000 in
set_option maxHeartbeats 1000000 in
theorem used_13:UsT 13:=by
 intro c w at' A B T N E body els uE uB uL vv bd ns t hA hB hs h
 have e1:Kn.usedF ns (Sx.tS 13 at' A B T N E body els)=0:=rfl
 rw [e1]
 clear h
 go_enter Tryz.func120,Tryz.ntmps120
 go_wp2
 go_ret
 exact ⟨rfl,(Kp.refl _ _).alloc _⟩
set_option maxRecDepth 100000 in
set_option maxHeartbeats 1000000 in
theorem used_14:UsT 14:=by
 intro c w at' A B T N E body els uE uB uL vv bd ns t hA hB hs h
 have e1:Kn.usedF ns (Sx.tS 14 at' A B T N E body els)=0:=rfl
 rw [e1]
 clear h
 go_enter Tryz.func120,Tryz.ntmps120
 go_wp2
 go_ret
 exact ⟨rfl,(Kp.refl _ _).alloc _⟩
theorem used_any (d:Int) (h1:1≤d) (h2:d≤14):UsT d:=by
 obtain ⟨k,rfl⟩: ∃ k:Nat,d=k:=⟨d.toNat,by omega⟩
 have h:k=1∨k=2∨k=3∨k=4∨k=5∨k=6∨k=7∨k=8∨k=9∨k=10∨k=11∨k=12∨k=13∨k=14:=by omega
 rcases h with rfl|rfl|rfl|rfl|rfl|rfl|rfl|rfl|rfl|rfl|rfl|rfl|rfl|rfl
 ·exact used_1
 ·exact used_2
 ·exact used_3
 ·exact used_4
 ·exact used_5
 ·exact used_6
 ·exact used_7
 ·exact used_8
 ·exact used_9
 ·exact used_10
 ·exact used_11
 ·exact used_12
 ·exact used_13
 ·exact used_14
end Go.Proofs.YthcapfojofahkaaGreatDoor
