import Derived.Test.YtcdcoiobpbdmpaaGreatDoorMav
import Derived.Test.YtcdcoiobpbdmpaaGreatDoorMbb
import Derived.Test.YtcdcoiobpbdmpaaGreatDoorMaw
import Derived.Lib.ItoaLen
import Derived.Test.YtcdcoiobpbdmpaaGreatDoorMbc
namespace Go.Proofs.YtcdcoiobpbdmpaaGreatDoor
open Go.RowKit Go.Maps Go.ChangeMaps
theorem kExprCodeC_any (x:Nat) (a b:List UInt8) (w:World) (h:w.cell? ⟨x,0,none⟩=some (.string (bs b))):
  Calls Tryz.prog 160 #[.string (bs a),.pointer (some ⟨x,0,none⟩)] w fun e w'=>e= .returned (.bool (decide (a=b)))∧Kp [] w w':=by
 have q:((bs a).toList == (bs b).toList)=decide (a=b):=by rw [bsl,bsl];by_cases e:a=b<;> simp [e]
 go_enter Tryz.func160,Tryz.ntmps160
 go_wp2
 go_ret
 exact ⟨by first|rfl|rw [q],Kp.refl _ _⟩
theorem pre_one (a:List UInt8) (b:UInt8):Lib.hasPrefix (bs a).data.toList (bs [b]).data.toList=decide (a.head? =some b):=by
 show Lib.hasPrefix a [b]=_
 unfold Lib.hasPrefix
 cases a with
 |nil=>rfl
 |cons x r=>
  show (b == x && true)=_
  by_cases e:b=x
  ·subst e;simp
  ·have e':x ≠ b:=fun h=>e h.symm
   simp [e,e']
theorem kUsedCodeD_any (x:Nat) (a:List UInt8) (b:UInt8) (w:World) (h:w.cell? ⟨x,0,none⟩=some (.string (bs [b]))):
  Calls Tryz.prog 157 #[.string (bs a),.pointer (some ⟨x,0,none⟩)] w fun e w'=>e= .returned (.bool (decide (a.head? =some b)))∧Kp [] w w':=by
 have HP:=hide (fun w=>hasPrefix_any (bs a) (bs [b]) w)
 rw [pre_one] at HP
 go_enter Tryz.func157,Tryz.ntmps157
 go_wp2_with fail
 refine (HP.out _).mono ?_
 rintro e w1 ⟨rfl,rfl⟩
 go_wp2
 go_ret
 exact ⟨rfl,Kp.refl _ _⟩
namespace Kn
def tc (ns:List Nv) (nm t:List UInt8):Int:=if typ ns nm=[] then 10 else if typ ns nm ≠ t then 11 else 0
def exc:Nat→List Nv→Sx.Tr→List UInt8→Int
 |0,_,_,_=>0
 |n+1,ns,d,t=>if (Sx.eH d).1=2 then tc ns (Sx.eH d).2.1 t else if t ≠ [105] then 11 else Rn.firstOf (fun x=>exc n ns x [105]) (Sx.eL d)
end Kn
set_option maxRecDepth 100000 in
set_option maxHeartbeats 1000000 in
theorem kCode_eq (c:Kg) (w:World) (vv:Value) (bd ns:List Kn.Nv) (t:Nat) (nm ty:List UInt8) (x:Nat) (h:KS c w vv bd (Kn.fkn ns bd) t) (hs:Kn.Sb ns bd) (hl:nm.length≤1000000) (hx:w.cell? ⟨x,0,none⟩=some (.string (bs ty))):
  Calls Tryz.prog 158 #[.pointer (some ⟨c.g,0,none⟩),.string (bs nm),.func (.func 160) #[] #[.pointer (some ⟨x,0,none⟩)]] w fun e w'=>e= .returned (.int .i64 (Kn.tc ns nm ty))∧Kp [] w w':=by
 have HT:=hide (kTypeOf_any c w vv bd ns t nm h hs hl)
 unfold Kn.tc
 generalize Kn.typ ns nm=T at *
 have e0:(bs ([]:List UInt8)).toList=[]:=bs0
 have HC:=hide (fun w' (hk:Kp [] w w')=>kExprCodeC_any x T ty w' (hk.some hx (by simp)))
 clear h hs
 by_cases h0:T=[]
 ·subst h0
  rw [if_pos rfl]
  go_enter Tryz.func158,Tryz.ntmps158
  go_wp2_with fail
  refine HT.out.mono ?_
  rintro e w1 ⟨rfl,k1⟩
  have K1:=hide k1
  clear k1
  go_wp2
  go_ret
  exact ⟨rfl,K1.out⟩
 ·have q0:((bs T).toList == [])=false:=by rw [bsl];simpa using h0
  rw [if_neg h0]
  by_cases h1:T=ty
  ·rw [if_neg (by simpa using h1)]
   have d1:decide (T=ty)=true:=by simpa using h1
   rw [d1] at HC
   clear d1 h1
   go_enter Tryz.func158,Tryz.ntmps158
   go_wp2_with fail
   refine HT.out.mono ?_
   rintro e w1 ⟨rfl,k1⟩
   have K1:=hide k1
   clear k1
   go_wp2_with fail
   refine (HC.out _ K1.out).mono ?_
   rintro e w2 ⟨rfl,k2⟩
   have K2:=hide k2
   clear k2
   go_wp2
   go_ret
   exact ⟨rfl,K1.out.trans K2.out⟩
  ·rw [if_pos h1]
   have d1:decide (T=ty)=false:=by simpa using h1
   rw [d1] at HC
   clear d1 h1
   go_enter Tryz.func158,Tryz.ntmps158
   go_wp2_with fail
   refine HT.out.mono ?_
   rintro e w1 ⟨rfl,k1⟩
   have K1:=hide k1
   clear k1
   go_wp2_with fail
   refine (HC.out _ K1.out).mono ?_
   rintro e w2 ⟨rfl,k2⟩
   have K2:=hide k2
   clear k2
   go_wp2
   go_ret
   exact ⟨rfl,K1.out.trans K2.out⟩
set_option maxRecDepth 100000 in
set_option maxHeartbeats 1000000 in
theorem kCode_pre (c:Kg) (w:World) (vv:Value) (bd ns:List Kn.Nv) (t:Nat) (nm:List UInt8) (b:UInt8) (x:Nat) (h:KS c w vv bd (Kn.fkn ns bd) t) (hs:Kn.Sb ns bd) (hl:nm.length≤1000000) (hx:w.cell? ⟨x,0,none⟩=some (.string (bs [b]))):
  Calls Tryz.prog 158 #[.pointer (some ⟨c.g,0,none⟩),.string (bs nm),.func (.func 157) #[] #[.pointer (some ⟨x,0,none⟩)]] w fun e w'=>e= .returned (.int .i64 (Kn.mst ns nm b))∧Kp [] w w':=by
 have HT:=hide (kTypeOf_any c w vv bd ns t nm h hs hl)
 unfold Kn.mst
 generalize Kn.typ ns nm=T at *
 have e0:(bs ([]:List UInt8)).toList=[]:=bs0
 have HC:=hide (fun w' (hk:Kp [] w w')=>kUsedCodeD_any x T b w' (hk.some hx (by simp)))
 clear h hs
 by_cases h0:T=[]
 ·subst h0
  rw [if_pos rfl]
  go_enter Tryz.func158,Tryz.ntmps158
  go_wp2_with fail
  refine HT.out.mono ?_
  rintro e w1 ⟨rfl,k1⟩
  have K1:=hide k1
  clear k1
  go_wp2
  go_ret
  exact ⟨rfl,K1.out⟩
 ·have q0:((bs T).toList == [])=false:=by rw [bsl];simpa using h0
  rw [if_neg h0]
  by_cases h1:T.head? =some b
  ·rw [if_neg (by simpa using h1)]
   have d1:decide (T.head? =some b)=true:=by simpa using h1
   rw [d1] at HC
   clear d1 h1
   go_enter Tryz.func158,Tryz.ntmps158
   go_wp2_with fail
   refine HT.out.mono ?_
   rintro e w1 ⟨rfl,k1⟩
   have K1:=hide k1
   clear k1
   go_wp2_with fail
   refine (HC.out _ K1.out).mono ?_
   rintro e w2 ⟨rfl,k2⟩
   have K2:=hide k2
   clear k2
   go_wp2
   go_ret
   exact ⟨rfl,K1.out.trans K2.out⟩
  ·rw [if_pos h1]
   have d1:decide (T.head? =some b)=false:=by simpa using h1
   rw [d1] at HC
   clear d1 h1
   go_enter Tryz.func158,Tryz.ntmps158
   go_wp2_with fail
   refine HT.out.mono ?_
   rintro e w1 ⟨rfl,k1⟩
   have K1:=hide k1
   clear k1
   go_wp2_with fail
   refine (HC.out _ K1.out).mono ?_
   rintro e w2 ⟨rfl,k2⟩
   have K2:=hide k2
   clear k2
   go_wp2
   go_ret
   exact ⟨rfl,K1.out.trans K2.out⟩
end Go.Proofs.YtcdcoiobpbdmpaaGreatDoor
namespace Go.Proofs.YtcdcoiobpbdmpaaGreatDoor
open Go.RowKit
theorem Rn.cat_take {g:Sx.Tr→List UInt8} {l:List Sx.Tr} {i:Nat} {d:Sx.Tr} (h:l[i]? =some d):Rn.cat g (l.take (i+1))=Rn.cat g (l.take i)++g d:=by
 rw [List.take_add_one,h,Rn.cat_append]
 simp [Rn.cat]
theorem Rn.cat_le (g:Sx.Tr→List UInt8) (l:List Sx.Tr) (i:Nat):(Rn.cat g (l.take i)).length≤(Rn.cat g l).length:=by
 have:=congrArg List.length (congrArg (Rn.cat g) (List.take_append_drop i l))
 rw [Rn.cat_append,List.length_append] at this
 omega
theorem Rn.cat_ge {g:Sx.Tr→List UInt8} (hg: ∀ d,1≤(g d).length) (l:List Sx.Tr):l.length≤(Rn.cat g l).length:=by
 induction l with
 |nil=>simp
 |cons d r ih=>
  have:=hg d
  simp only [Rn.cat,List.length_append,List.length_cons]
  omega
theorem Rn.st1_pos (n k:Nat) (t:Sx.Tr):1≤(Rn.st1 n k t).length:=by
 unfold Rn.st1
 rw [List.length_append]
 simp
theorem PG.up {w0 w:World} {pb k:Nat} {x:List UInt8} (h:PG w0 pb x k w):PG w0 pb x (k+1) (w.setCell ⟨pb,2,none⟩ (.int .i64 ((k:Int)+1))):=h.deep (k':=k+1)
set_option maxRecDepth 100000 in
set_option maxHeartbeats 1000000 in
theorem pBlock_step (n:Nat) (ih:BPt n):BPt (n+1):=by
 intro w0 pb k x w P l a c h hT hS hb hlen
 rw [Rn.blt_st] at hlen ⊢
 have HE:=hide (Rn.okB_each hb)
 have hcg:=Rn.cat_ge (Rn.st1_pos n (k+1)) l
 simp only [List.length_append,Rn.tabs,List.length_replicate] at hlen
 have hk9:k≤140737488355328:=by omega
 have hl9:l.length≤140737488355328:=by omega
 have H:=hide h
 have HT:=hide hT
 have HS:=hide hS
 have IH:=hide (pStmt n ih)
 have HC:=hide (pAdd [[123,10]] (some ⟨w.heap.size,0,none⟩) 1 (h.alloc _) (TX.new [[123,10]] w h.lt) (by simp at hlen ⊢;omega) (by simp))
 have HL:=h.lt
 clear h hT hS hb ih
 go_enter Tryz.func104,Tryz.ntmps104
 go_wp2_with fail
 refine HC.out.mono ?_
 rintro e w2 ⟨rfl,h2,hf2⟩
 have H2:Hid (PG w0 pb (x++[123,10]) k w2):=hide (by simpa using h2)
 have F2:=hide (((Fr.refl pb w).alloc _).trans hf2)
 have b2:=H2.out.blocks
 have z2:=H2.out.loose 2
 clear h2 hf2 HC
 go_wp2_with fail
 go_loopw [18] (fun iv wr=> ∃ (i:Nat),i≤l.length∧iv= .int .i64 i∧Hid (PG w0 pb (x++[123,10]++Rn.cat (Rn.st1 n (k+1)) (l.take i)) (k+1) wr)∧Hid (Fr pb w wr)) (fun iv _=>l.length - (intOf iv).toNat)
 case atStart=>exact ⟨0,Nat.zero_le _,rfl,hide (by have:=H2.out.up;simpa [Rn.cat] using this),F2.out.page _ _⟩
 case round=>
  obtain ⟨i,hi,rfl,HP,HF⟩:=hrel
  by_cases hlt:i<l.length
  ·have d1:decide ((i:Int)<(l.length:Int))=true:=by simp;omega
   obtain ⟨b,off,D,at',A,B,T,N,E,body,els,uE,uB,uL,rfl,_,hd,m0,m1,m2,m3,m4,m5,m6,m7,m8,hE,hB,hL⟩:=HS.out.nth i hlt
   obtain ⟨aE,cE,rfl⟩:=hE.slice
   obtain ⟨aB,cB,rfl⟩:=hB.slice
   obtain ⟨aL,cL,rfl⟩:=hL.slice
   obtain ⟨⟨deep,o1⟩,o2,o3⟩:=HE.out _ (List.mem_of_getElem? hd)
   have M0:=(HP.out.kp []).some m0 (by simp)
   have M1:=(HP.out.kp []).some m1 (by simp)
   have M2:=(HP.out.kp []).some m2 (by simp)
   have M3:=(HP.out.kp []).some m3 (by simp)
   have M4:=(HP.out.kp []).some m4 (by simp)
   have M5:=(HP.out.kp []).some m5 (by simp)
   have M6:=(HP.out.kp []).some m6 (by simp)
   have M7:=(HP.out.kp []).some m7 (by simp)
   have M8:=(HP.out.kp []).some m8 (by simp)
   have hk0:(0:Int)≤(i:Int):=by omega
   have hk1:(i:Int)<(l.length:Int):=by omega
   have e1:=Rn.cat_take (g:=Rn.st1 n (k+1)) hd
   have hle:=Rn.cat_le (Rn.st1 n (k+1)) l (i+1)
   rw [e1,List.length_append] at hle
   have E1:=hide e1
   have HX:=hide (IH.out w0 pb (k+1) _ _ P D at' A B T N E body els aE aB aL cE cB cL (HP.out.alloc (.cells #[.int .i64 D,.int .i64 at',.string (bs A),.string (bs B),.string (bs T),.int .i64 N,.slice aE E.length cE,.slice aB body.length cB,.slice aL els.length cL] 75)) HT.out hE hB hL (Rn.okf o1) o2 o3 (by simp only [List.length_append,List.length_cons,List.length_nil] at hlen ⊢;omega))
   clear hE hB hL o1 o2 o3 m0 m1 m2 m3 m4 m5 m6 m7 m8 e1 hle hd
   go_wp2_with fail
   refine HX.out.mono ?_
   rintro e w4 ⟨rfl,h4,hf4⟩
   have H4:=hide h4
   have F4:=hide (HF.out.trans (((Fr.refl pb wr).alloc _).trans hf4))
   clear h4 hf4 HX
   go_wp2
   go_roundw
   case rel=>exact ⟨i+1,by omega,by go_num,by rw [E1.out,←List.append_assoc];exact H4,F4⟩
   case measure=>simp [intOf];omega
  ·obtain rfl:i=l.length:=by omega
   have d1:decide ((l.length:Int)<(l.length:Int))=false:=by simp
   rw [List.take_length] at HP
   have b3:=HP.out.blocks
   have z3:=HP.out.loose 2
   have H5:=hide (HP.out.deep (k':=k))
   have HC:=hide (pBegin [[125]] (some ⟨(wr.setCell ⟨pb,2,none⟩ (.int .i64 k)).heap.size,0,none⟩) 1 (H5.out.alloc _) (TX.new [[125]] _ H5.out.lt) (by simp only [List.length_append,List.length_cons,List.length_nil,List.flatten_cons,List.flatten_nil] at hlen ⊢;omega) (by simp))
   rw [show (wr.setCell ⟨pb,2,none⟩ (.int .i64 k)).heap.size=wr.heap.size from by simp [World.setCell]] at HC
   go_wp2_with fail
   refine HC.out.mono ?_
   rintro e w4 ⟨rfl,h4,hf4⟩
   go_wp2
   go_end0
   exact ⟨rfl,by simpa [Rn.tabs] using h4,(HF.out.page _ _).trans (((Fr.refl _ _).alloc _).trans hf4)⟩
theorem pBlock_any (n:Nat):BPt n:=by
 induction n with
 |zero=>intro w0 pb k x w P l a c _ _ hS;cases hS
 |succ n ih=>exact pBlock_step n ih
end Go.Proofs.YtcdcoiobpbdmpaaGreatDoor
namespace Go.Proofs.YtcdcoiobpbdmpaaGreatDoor
open Go.RowKit
def Rn.par1 (p:Sx.Tr):List UInt8:=(Sx.pH p).1++[32]++Rn.tyw (Sx.pH p).2
theorem Rn.stt_is (n:Nat) (nm:List UInt8) (at':Int) (ps body:List Sx.Tr):Rn.stt n (Sx.tG nm at' ps body)=[115,116,97,103,101,32]++nm++[40]++Rn.com (ps.map Rn.par1)++[41,32]++Rn.blt n 0 body++[10]:=rfl
set_option maxRecDepth 100000 in
set_option maxHeartbeats 1000000 in
theorem pStage (n:Nat) (w0:World) (pb:Nat) (x:List UInt8) (w:World) (P:Nat→Prop) (nm:List UInt8) (at':Int) (ps body:List Sx.Tr) (aP aB:Option Addr) (cP cB:Nat) (h:PG w0 pb x 0 w) (hT:Tb w0) (hP:Sl RP w0 P ps (.slice aP ps.length cP)) (hB:SL w0 P n body (.slice aB body.length cB)) (ob:Rn.okB n body) (hps:ps.length≤1000000)
  (hlen:x.length+(Rn.stt n (Sx.tG nm at' ps body)).length≤140737488355328):
  Calls Tryz.prog 68 #[.pointer (some ⟨pb,0,none⟩),.agg #[.string (bs nm),.int .i64 at',.slice aP ps.length cP,.slice aB body.length cB]] w fun e w'=>e= .returned (.tuple #[])∧PG w0 pb (x++Rn.stt n (Sx.tG nm at' ps body)) 0 w'∧Fr pb w w':=by
 rw [Rn.stt_is] at hlen ⊢
 simp only [List.length_append] at hlen
 have H:=hide h
 have HP:=hide hP
 have HB:=hide (fun W y (hp:PG w0 pb y 0 W)=>pBlock_any n w0 pb 0 y W P body aB cB hp hT hB ob)
 have HL:=h.lt
 have HC:=hide (pBegin [[115,116,97,103,101,32],nm,[40]] (some ⟨w.heap.size+1,0,none⟩) 3 ((h.alloc (.cells #[.string (bs nm),.int .i64 at',.slice aP ps.length cP,.slice aB body.length cB] 53)).alloc _) (TX.new' [[115,116,97,103,101,32],nm,[40]] _ _ (by simp) (h.alloc _).lt) (by simp at hlen ⊢;omega) (by simp))
 clear h hT hP hB ob
 generalize Rn.blt n 0 body=X at *
 go_enter Tryz.func68,Tryz.ntmps68
 go_wp2_with fail
 refine HC.out.mono ?_
 rintro e w2 ⟨rfl,h2,hf2⟩
 have H2:Hid (PG w0 pb (x++([115,116,97,103,101,32]++nm++[40])) 0 w2):=hide (by simpa [Rn.tabs] using h2)
 have F2:=hide ((((Fr.refl pb w).alloc _).alloc _).trans hf2)
 have G2:w2.heap[w.heap.size]? =some (.cells #[.string (bs nm),.int .i64 at',.slice aP ps.length cP,.slice aB body.length cB] 53 (0,0)):=hf2.heap (by rw [Below.heap_alloc _ _ _ (by simp)];exact heap_alloc_new w _) (by omega) (by decide)
 have g22:w2.cell? ⟨w.heap.size,2,none⟩=some (.slice aP ps.length cP):=by rw [Lib.cell_of_heap G2];rfl
 clear h2 hf2 HC
 go_wp2_with fail
 go_loopw [14] (fun iv wr=> ∃ (i:Nat),i≤ps.length∧iv= .int .i64 i∧Hid (PG w0 pb (x++([115,116,97,103,101,32]++nm++[40])++Rn.com ((ps.map Rn.par1).take i)) 0 wr)∧Hid (Fr pb w2 wr)) (fun iv _=>ps.length - (intOf iv).toNat)
 case atStart=>exact ⟨0,Nat.zero_le _,rfl,hide (by simpa [Rn.com] using H2.out),Fr.refl _ _⟩
 case round=>
  obtain ⟨i,hi,rfl,HQ,HF⟩:=hrel
  have HLr:=HQ.out.lt
  by_cases hlt:i<ps.length
  ·have d1:decide ((i:Int)<(ps.length:Int))=true:=by simp;omega
   obtain ⟨b,off,pn,pT,rfl,hd,m0,m1⟩:=HP.out.nth' i hlt
   have hk0:(0:Int)≤(i:Int):=by omega
   have hk1:(i:Int)<(ps.length:Int):=by omega
   have M0:=(HQ.out.kp []).some m0 (by simp)
   have M1:=(HQ.out.kp []).some m1 (by simp)
   have hm:(ps.map Rn.par1)[i]? =some (pn++[32]++Rn.tyw pT):=by rw [List.getElem?_map,hd];rfl
   have e1:=Rn.com_take hm
   have e2:=Rn.com_take_le (ps.map Rn.par1) (i+1)
   rw [e1,List.length_append,List.length_append,List.length_append,List.length_append] at e2
   have HC:=hide (pComma i (HQ.out.alloc (.cells #[.string (bs pn),.string (bs pT)] 55)) (by simp only [List.length_append] at hlen ⊢;omega))
   have E1:=hide e1
   clear e1 hd hm m0 m1
   generalize (if i=0 then [] else [44,32]:List UInt8)=q at *
   generalize Rn.com ((ps.map Rn.par1).take i)=Y at *
   go_wp2_with fail
   refine HC.out.mono ?_
   rintro e w3 ⟨rfl,h3,hf3⟩
   have G3:w3.heap[wr.heap.size]? =some (.cells #[.string (bs pn),.string (bs pT)] 55 (0,0)):=hf3.heap (heap_alloc_new wr _) (by omega) (by decide)
   have F3:=hide (HF.out.trans (((Fr.refl pb wr).alloc _).trans hf3))
   have H3:=hide h3
   clear h3 hf3 HC
   have g0:w3.cell? ⟨wr.heap.size,0,none⟩=some (.string (bs pn)):=by rw [Lib.cell_of_heap G3];rfl
   have HC:=hide (pAdd [pn,[32]] (some ⟨w3.heap.size,0,none⟩) 2 (H3.out.alloc _) (TX.new [pn,[32]] w3 H3.out.lt) (by simp at hlen e2 ⊢;omega) (by simp))
   go_wp2_with fail
   refine HC.out.mono ?_
   rintro e w4 ⟨rfl,h4,hf4⟩
   have F4':=hide (((Fr.refl pb w3).alloc _).trans hf4)
   have G4:=F4'.out.heap G3 (by omega) (by decide)
   have F4:=hide (F3.out.trans F4'.out)
   have H4:Hid (PG w0 pb (x++([115,116,97,103,101,32]++nm++[40])++Y++q++(pn++[32])) 0 w4):=hide (by simpa using h4)
   clear h4 hf4 HC F4'
   have g1:w4.cell? ⟨wr.heap.size,1,none⟩=some (.string (bs pT)):=by rw [Lib.cell_of_heap G4];rfl
   go_wp2_with fail
   refine (pTypeWords pT H4.out (by simp at hlen e2 ⊢;omega)).mono ?_
   rintro e w5 ⟨rfl,h5,hf5⟩
   have H5:=hide h5
   have F5:=hide (F4.out.trans hf5)
   clear h5 hf5
   go_wp2
   go_roundw
   case rel=>exact ⟨i+1,by omega,by go_num,hide (by rw [E1.out];simpa using H5.out),F5⟩
   case measure=>simp [intOf];omega
  ·obtain rfl:i=ps.length:=by omega
   have d1:decide ((ps.length:Int)<(ps.length:Int))=false:=by simp
   rw [List.take_of_length_le (by simp)] at HQ
   have G3:=HF.out.heap G2 (by omega) (by decide)
   have HC:=hide (pAdd [[41,32]] (some ⟨wr.heap.size,0,none⟩) 1 (HQ.out.alloc _) (TX.new [[41,32]] wr HQ.out.lt) (by simp at hlen ⊢;omega) (by simp))
   go_wp2_with fail
   refine HC.out.mono ?_
   rintro e w3 ⟨rfl,h3,hf3⟩
   have F3':=hide (((Fr.refl pb wr).alloc _).trans hf3)
   have G4:=F3'.out.heap G3 (by omega) (by decide)
   have F3:=hide (HF.out.trans F3'.out)
   have H3:=hide h3
   clear h3 hf3 F3' HC
   have g3:w3.cell? ⟨w.heap.size,3,none⟩=some (.slice aB body.length cB):=by rw [Lib.cell_of_heap G4];rfl
   go_wp2_with fail
   refine (HB.out _ _ H3.out (by simp at hlen ⊢;omega)).mono ?_
   rintro e w4 ⟨rfl,h4,hf4⟩
   have H4:=hide h4
   have F4:=hide (F3.out.trans hf4)
   clear h4 hf4
   have HC:=hide (pAdd [[10]] (some ⟨w4.heap.size,0,none⟩) 1 (H4.out.alloc _) (TX.new [[10]] w4 H4.out.lt) (by simp at hlen ⊢;omega) (by simp))
   go_wp2_with fail
   refine HC.out.mono ?_
   rintro e w5 ⟨rfl,h5,hf5⟩
   go_wp2
   go_end0
   exact ⟨rfl,by simpa using h5,F2.out.trans (F4.out.trans (((Fr.refl _ _).alloc _).trans hf5))⟩
set_option maxHeartbeats 1000000 in
set_option maxRecDepth 100000 in
theorem pString {w0 w:World} {pb k:Nat} {x:List UInt8} (h:PG w0 pb x k w) (h0:x ≠ []):
  Calls Tryz.prog 70 #[.pointer (some ⟨pb,0,none⟩)] w fun e w'=>e= .returned (.string (bs x))∧Below w0.heap.size w0 w'∧Fr pb w w':=by
 obtain ⟨p,v,hp,hbk,hown,hne⟩:=h.is
 have hl0:x.length ≠ 0:=by simpa using h0
 obtain ⟨g,cap,cur,rfl,hbg,hg,hnc,hcm,hcs,htake⟩: ∃ g cap cur,v= .slice (some ⟨g,0,none⟩) x.length cap∧w0.heap.size≤g∧w.heap[g]? =some (.cells cur 5 (0,0))∧x.length≤cap∧cap≤maxLen∧cur.size=cap * 1∧cur.toList.take (x.length * 1)=Lib.byteCells x:=by
  rcases hown.2 with ⟨_,hz⟩|⟨g,cap,cur,hv,r⟩
  ·exact absurd hz hl0
  ·exact ⟨g,cap,cur,hv,r⟩
 have c1:w.drew.cell? ⟨pb,1,none⟩=some (.slice (some ⟨g,0,none⟩) x.length cap):=by
  have:w.drew.heap[pb]? =_:=hbk
  rw [Lib.cell_of_heap this];rfl
 have hSD:(Builtin.unsafeSliceData_ #[138] 150 #[.slice (some ⟨g,0,none⟩) x.length cap]).run Tryz.prog w.drew= .ok (.pointer (some ⟨g,0,none⟩)) w.drew:=
  Lib.run_unsafeSliceData_row _ _ _ _ _ _ (by omega)
 have hUS:(Builtin.unsafeString_ #[150,3] 9 #[.pointer (some ⟨g,0,none⟩),.int .i64 x.length]).run Tryz.prog w.drew= .ok (.string (bs x)) (w.drew.freeze ⟨g,0,none⟩ x.length):=by
  refine Lib.run_unsafeString_row w.drew 150 3 9 5 Tryz.underlying150 Tryz.cellsByte g cur.size (by have hg':w.drew.heap[g]? =some (.cells cur 5 (0,0)):=hg;simp [World.shape?,hg']) x h0 (by omega) (by unfold maxLen at hcm;omega) ?_
  intro j u hu
  exact hown.cells (g:=g) rfl j (.int .u8 u.toNat) (by simp [Lib.byteCells,hu])
 have HB:=hide h.below
 clear h hp hown hne htake hcs hnc hcm
 go_enter Tryz.func70,Tryz.ntmps70
 go_wp2
 go_region
 all_goals (go_wp2;go_ret;exact ⟨rfl,Lib.below_freeze (Below.drew HB.out) (p:=⟨g,0,none⟩) hbg _,Lib.OthersKept.freeze (Lib.OthersKept.drew (Fr.refl pb w)) ⟨g,0,none⟩ _ ⟨cur,(0,0),hg⟩⟩)
end Go.Proofs.YtcdcoiobpbdmpaaGreatDoor
namespace Go.Proofs.YtcdcoiobpbdmpaaGreatDoor
open Go.RowKit
theorem Rn.isN_len {l:List UInt8} (h:Tk.isN l=true):l.length≤12:=by
 unfold Tk.isN at h
 simp only [Bool.and_eq_true,decide_eq_true_eq] at h
 exact h.1.1.1.2
theorem Rn.digs_len {z:Int} (h0:0≤z) (h1:z<1000000000000000000):(Rn.digs z).length≤21:=Lib.itoa_length_le z (by omega) (by omega)
theorem Rn.brk_len (b:Bool) (x:List UInt8):(Rn.brk b x).length≤x.length+2:=by
 unfold Rn.brk
 cases b<;> simp
theorem Rn.sign_len (op:Int):(Rn.sign op).length≤4:=by
 unfold Rn.sign
 split
 ·simp
 ·split
  ·simp
  ·split
   ·simp
   ·split<;> simp
theorem Rn.xt_len (n:Nat): ∀ (must:Nat) (d:Sx.Tr),Rn.xf n d=0→(Rn.xt n must d).length≤30 * Rn.prt n d:=by
 induction n with
 |zero=>intro must d _;simp [Rn.xt]
 |succ n ih=>
  intro must d h
  rcases he:Sx.eH d with ⟨op,nm,z⟩
  have hx:Rn.xf (n+1) d=if op<1∨8<op∨(Sx.eL d).length ≠ Rn.want op∨(z ≠ 0∧op ≠ 1)∨(nm ≠ []∧op ≠ 2) then (5:Int)
   else if op=2∧Tk.isN nm=false then 4
   else if z<0∨1000000000000000000≤z then 3
   else Rn.firstOf (Rn.xf n) (Sx.eL d):=by simp only [Rn.xf,he]
  rw [hx] at h
  split at h
  ·cases h
  rename_i hb
  split at h
  ·cases h
  rename_i hn
  split at h
  ·cases h
  rename_i hz
  have hs:=Rn.firstOf_zero h
  have hl:(Sx.eL d).length=Rn.want op:=Decidable.byContradiction fun hc=>hb (.inr (.inr (.inl hc)))
  have e:Rn.xt (n+1) must d=Rn.brk (decide (Rn.holds op<must)) (if op=1 then Rn.digs z else if op=2 then nm else if op=3 then [45]++Rn.xt n 3 ((Sx.eL d).headD Sx.d0)
   else Rn.xt n (Rn.lft op) ((Sx.eL d).headD Sx.d0)++Rn.sign op++Rn.xt n (Rn.holds op+1) ((Sx.eL d).tail.headD Sx.d0)):=by simp only [Rn.xt,he]
  rw [e]
  refine Nat.le_trans (Rn.brk_len _ _) ?_
  have hp:Rn.prt (n+1) d=1+Sx.sum (Rn.prt n) (Sx.eL d):=by unfold Rn.prt;rw [Rn.wE_prt];rfl
  rw [hp]
  generalize Sx.eL d=L at *
  by_cases h1:op=1
  ·rw [if_pos h1]
   have:=Rn.digs_len (z:=z) (by omega) (by omega)
   omega
  rw [if_neg h1]
  by_cases h2:op=2
  ·rw [if_pos h2]
   have hN:Tk.isN nm=true:=by
    cases hh:Tk.isN nm with
    |true=>rfl
    |false=>exact absurd ⟨h2,hh⟩ hn
   have:=Rn.isN_len hN
   omega
  rw [if_neg h2]
  by_cases h3:op=3
  ·rw [if_pos h3]
   subst h3
   have hl1:L.length=1:=hl
   obtain ⟨d1,rfl⟩:=List.length_eq_one_iff.1 hl1
   have:=ih 3 d1 (hs d1 (by simp))
   simp only [List.headD_cons,List.length_append,Sx.sum,List.length_cons,List.length_nil]
   omega
  ·rw [if_neg h3]
   have hl2:L.length=2:=by rw [hl,Rn.want_op (by omega)]
   match L,hl2 with
   |[d1,d2],_=>
    have a1:=ih (Rn.lft op) d1 (hs d1 (by simp))
    have a2:=ih (Rn.holds op+1) d2 (hs d2 (by simp))
    have a3:=Rn.sign_len op
    simp only [List.headD_cons,List.tail_cons,List.length_append,Sx.sum]
    omega
theorem Rn.com_len {c:Nat} (l:List (List UInt8)) (h: ∀ s ∈ l,s.length≤c):(Rn.com l).length≤l.length * (c+2):=by
 induction l with
 |nil=>simp [Rn.com]
 |cons a r ih=>
  have h1:=h a (by simp)
  have h2:=ih (fun s hs=>h s (by simp [hs]))
  cases r with
  |nil=>show a.length≤(0+1) * (c+2);omega
  |cons b t=>
   show (a++[44,32]++Rn.com (b::t)).length≤_
   simp only [List.length_append,List.length_cons,List.length_nil] at h2 ⊢
   rw [Nat.add_mul (t.length+1) 1]
   omega
theorem Rn.ahead_len {n:Nat} {D at':Int} {A B T:List UInt8} {N:Int} {E body els:List Sx.Tr} (h:Rn.Okf n D A B T N E body els):(Rn.ahead n (Sx.tS D at' A B T N E body els)).length≤4000:=by
 have hA:A.length≤12:=by
  cases hh:Rn.hasA D with
  |true=>exact Rn.isN_len (h.naA hh)
  |false=>rw [h.nilA hh];simp
 have hB:B.length≤12:=by
  cases hh:Rn.hasB D with
  |true=>exact Rn.isN_len (h.naB hh)
  |false=>rw [h.nilB hh];simp
 have hT:(Rn.tyw T).length≤20:=by have:=Rn.tyw_len T;have:=h.tl;omega
 have hN:(Rn.digs N).length≤21:=Rn.digs_len h.n0 h.n1
 have hE:(Rn.com (E.map (Rn.xt n 0))).length≤3700:=by
  have:=Rn.com_len (c:=600) (E.map (Rn.xt n 0)) (by
   intro s hs
   obtain ⟨d,hd,rfl⟩:=List.mem_map.1 hs
   obtain ⟨i,hi⟩:=List.getElem?_of_mem hd
   have h1:=Rn.xt_len n 0 d (h.xs i d hi)
   have h2:=h.prt i d hi
   omega)
  rw [List.length_map] at this
  have h6:=h.few
  have:E.length * (600+2)≤6 * 602:=Nat.mul_le_mul_right 602 h6
  omega
 have hd1:=h.d1
 have hd2:=h.d2
 clear h
 rcases Rn.kinds hd1 hd2 with rfl|rfl|rfl|rfl|rfl|rfl|rfl|rfl|rfl|rfl|rfl|rfl|rfl|rfl
 all_goals (simp [Rn.ahead,Sx.sH,Sx.tS,Sx.sE];try omega)
theorem Rn.cat_len {g:Sx.Tr→List UInt8} {c:Sx.Tr→Nat} (l:List Sx.Tr) (h: ∀ t ∈ l,(g t).length≤c t):(Rn.cat g l).length≤Sx.sum c l:=by
 induction l with
 |nil=>simp [Rn.cat,Sx.sum]
 |cons a r ih=>
  have h1:=h a (by simp)
  have h2:=ih (fun s hs=>h s (by simp [hs]))
  simp only [Rn.cat,Sx.sum,List.length_append]
  omega
theorem Rn.sum_mul (f:Sx.Tr→Nat) (q:Nat) (l:List Sx.Tr):Sx.sum (fun t=>(1+f t) * q) l=(l.length+Sx.sum f l) * q:=by
 induction l with
 |nil=>simp [Sx.sum]
 |cons a r ih=>
  simp only [Sx.sum,List.length_cons]
  rw [ih,←Nat.add_mul]
  congr 1
  omega
theorem SL.at {w:World} {P:Nat→Prop} {n:Nat} {l:List Sx.Tr} {v:Value} (h:SL w P (n+1) l v) {t:Sx.Tr} (ht:t ∈ l): ∃ D at' A B T N E body els uB uL,t=Sx.tS D at' A B T N E body els∧SL w P n body uB∧SL w P n els uL:=by
 obtain ⟨i,hi⟩:=List.getElem?_of_mem ht
 obtain ⟨a,cap,rfl⟩:=h.slice
 obtain ⟨b,off,D,at',A,B,T,N,E,body,els,uE,uB,uL,-,-,hd,-,-,-,-,-,-,-,-,-,-,hB,hL⟩:=h.nth i (List.getElem?_eq_some_iff.1 hi).1
 rw [hi] at hd
 cases hd
 exact ⟨D,at',A,B,T,N,E,body,els,uB,uL,rfl,hB,hL⟩
theorem Rn.blt_len (n:Nat): ∀ (w:World) (P:Nat→Prop) (l:List Sx.Tr) (v:Value) (k Q:Nat),SL w P n l v→Rn.okB n l→5000+3 * (k+n)≤Q→(Rn.blt n k l).length≤3+k+Sx.wS n l * Q:=by
 induction n with
 |zero=>intro w P l v k Q h;cases h
 |succ n ih=>
  intro w P l v k Q h ho hQ
  rw [Rn.blt_st]
  have hc:=Rn.cat_len (g:=Rn.st1 n (k+1)) (c:=fun d=>(1+(Sx.wE n (Sx.sE d)+Sx.wS n (Sx.sB d)+Sx.wS n (Sx.sO d))) * Q) l (by
   intro t ht
   obtain ⟨⟨deep,o1⟩,o2,o3⟩:=Rn.okB_each ho t ht
   obtain ⟨D,at',A,B,T,N,E,body,els,uB,uL,rfl,hB,hL⟩:=h.at ht
   have h1:=Rn.ahead_len (at':=at') (Rn.okf o1)
   have h2:=ih w P body uB (k+1) Q hB o2 (by omega)
   have h3:=ih w P els uL (k+1) Q hL o3 (by omega)
   show (Rn.tabs (k+1)++Rn.ahead n (Sx.tS D at' A B T N E body els)++(if Rn.hasS D then Rn.blt n (k+1) body++Rn.els1 n (k+1) els else [])++[10]).length≤(1+(Sx.wE n E+Sx.wS n body+Sx.wS n els)) * Q
   have h4:(if Rn.hasS D then Rn.blt n (k+1) body++Rn.els1 n (k+1) els else []).length≤(Rn.blt n (k+1) body).length+6+(Rn.blt n (k+1) els).length:=by
    split
    ·rw [List.length_append]
     unfold Rn.els1
     split
     ·simp;omega
     ·simp only [List.length_append,List.length_cons,List.length_nil];omega
    ·simp
   simp only [List.length_append,Rn.tabs,List.length_replicate,List.length_cons,List.length_nil]
   rw [Nat.add_mul,Nat.add_mul,Nat.add_mul,Nat.one_mul]
   have h5:0≤Sx.wE n E * Q:=Nat.zero_le _
   omega)
  rw [Rn.sum_mul] at hc
  have e:Sx.wS (n+1) l=l.length+Sx.sum (fun d=>Sx.wE n (Sx.sE d)+Sx.wS n (Sx.sB d)+Sx.wS n (Sx.sO d)) l:=rfl
  rw [e]
  simp only [List.length_append,Rn.tabs,List.length_replicate,List.length_cons,List.length_nil]
  omega
end Go.Proofs.YtcdcoiobpbdmpaaGreatDoor
namespace Go.Proofs.YtcdcoiobpbdmpaaGreatDoor
open Go.RowKit
theorem Rn.gf_each (n:Nat) (l:List Sx.Tr): ∀ (i a b:Nat),Rn.gf n i a l= .inl b→ ∀ g ∈ l,Rn.hf g=0∧Rn.okB n (Sx.gB g):=by
 induction l with
 |nil=>intro i a b _ g hg;cases hg
 |cons d r ih=>
  intro i a b h g hg
  have h':(if Rn.hf d ≠ 0 then .inr (Rn.hf d,-2 - (i:Int)) else Rn.thn (Rn.bf n 1 a (Sx.gB d)) fun b=>Rn.gf n (i+1) b r)= .inl b:=h
  split at h'
  ·cases h'
  ·rename_i h1
   obtain ⟨c,h3,h4⟩:=Rn.thn_le h'
   rcases List.mem_cons.1 hg with rfl|hg
   ·exact ⟨Decidable.byContradiction h1,⟨_,_,_,h3⟩⟩
   ·exact ih _ _ _ h4 g hg
theorem Rn.gf_ne (n:Nat) (l:List Sx.Tr): ∀ (i a:Nat) (f:Int × Int),Rn.gf n i a l= .inr f→f.1 ≠ 0:=by
 induction l with
 |nil=>intro i a f h;cases h
 |cons d r ih=>
  intro i a f h
  have h':(if Rn.hf d ≠ 0 then .inr (Rn.hf d,-2 - (i:Int)) else Rn.thn (Rn.bf n 1 a (Sx.gB d)) fun b=>Rn.gf n (i+1) b r)= .inr f:=h
  split at h'
  ·rename_i h1;cases h';exact h1
  ·cases hx:Rn.bf n 1 a (Sx.gB d) with
   |inl b=>rw [hx] at h';exact ih _ _ _ h'
   |inr e=>rw [hx] at h';cases h';exact Rn.bf_ne n _ _ _ _ hx
theorem Rn.pf_ok {n:Nat} {l:List Sx.Tr} (h:(Rn.pf n l).1=0):Rn.pf n l=(0,0)∧l ≠ []∧l.length≤10∧ ∀ g ∈ l,Rn.hf g=0∧Rn.okB n (Sx.gB g):=by
 by_cases h0:l.length=0
 ·unfold Rn.pf at h;rw [if_pos h0] at h;cases h
 ·by_cases h1:10<l.length
  ·unfold Rn.pf at h;rw [if_neg h0,if_pos h1] at h;cases h
  ·rw [Rn.pf_mid h0 h1] at h ⊢
   cases hg:Rn.gf n 0 0 l with
   |inr f=>rw [hg] at h;exact absurd h (Rn.gf_ne n l 0 0 f hg)
   |inl b=>exact ⟨rfl,by intro e;rw [e] at h0;exact h0 rfl,by omega,Rn.gf_each n l 0 0 b hg⟩
theorem Rn.hf_ok {g:Sx.Tr} (h:Rn.hf g=0):(Sx.gN g).length≤12∧(Sx.gP g).length≤6∧ ∀ p ∈ Sx.gP g,(Rn.par1 p).length≤33:=by
 unfold Rn.hf at h
 split at h
 ·cases h
 rename_i h1
 split at h
 ·cases h
 rename_i h2
 have hN:Tk.isN (Sx.gN g)=true:=by
  cases hh:Tk.isN (Sx.gN g) with
  |true=>rfl
  |false=>exact absurd hh h1
 refine ⟨Rn.isN_len hN,by omega,fun p hp=> ?_⟩
 have h3:=Rn.firstOf_zero h p hp
 split at h3
 ·cases h3
 rename_i h4
 split at h3
 ·cases h3
 rename_i h5
 have hn:Tk.isN (Sx.pH p).1=true:=by
  cases hh:Tk.isN (Sx.pH p).1 with
  |true=>rfl
  |false=>exact absurd hh h4
 have ht:Rn.isT (Sx.pH p).2 3=true:=by
  cases hh:Rn.isT (Sx.pH p).2 3 with
  |true=>rfl
  |false=>exact absurd hh h5
 have a1:=Rn.isN_len hn
 unfold Rn.isT at ht
 simp only [Bool.and_eq_true,decide_eq_true_eq] at ht
 have a2:=Rn.tyw_len (Sx.pH p).2
 unfold Rn.par1
 simp only [List.length_append,List.length_cons,List.length_nil]
 omega
theorem Rn.pt_len {n:Nat} {w:World} {P:Nat→Prop} {l:List Sx.Tr} {a:Option Addr} {c:Nat} (h:Sl (RG w P n) w P l (.slice a l.length c)) (hN:Nm n l) (hl:l.length≤10) (ho: ∀ g ∈ l,Rn.hf g=0∧Rn.okB n (Sx.gB g)):(Rn.pt n l).length≤100000000000000:=by
 have hc:=Rn.cat_len (g:=Rn.stt n) (c:=fun _=>(1+0) * 10000000000000) l (by
  intro g hg
  obtain ⟨i,hi⟩:=List.getElem?_of_mem hg
  obtain ⟨b,off,nm,at',ps,body,uP,uB,-,-,hd,-,-,-,-,hP,hB⟩:=GL.nth h i (List.getElem?_eq_some_iff.1 hi).1
  rw [hi] at hd
  cases hd
  obtain ⟨h1,h2⟩:=ho _ hg
  obtain ⟨a1,a2,a3⟩:=Rn.hf_ok h1
  have a4:Sx.wS n body≤1000000:=hN.ws i _ hi
  have a5:=Rn.blt_len n w P body uB 0 4000000 hB h2 (by have:=hN.lv;omega)
  have a6:Sx.wS n body * 4000000≤1000000 * 4000000:=Nat.mul_le_mul_right _ a4
  have a7:=Rn.com_len (c:=33) (ps.map Rn.par1) (by
   intro s hs
   obtain ⟨p,hp,rfl⟩:=List.mem_map.1 hs
   exact a3 p hp)
  rw [List.length_map] at a7
  have a8:ps.length * (33+2)≤6 * 35:=Nat.mul_le_mul_right 35 a2
  have a9:nm.length≤12:=a1
  rw [Rn.stt_is]
  simp only [List.length_append,List.length_cons,List.length_nil]
  omega)
 rw [Rn.sum_mul] at hc
 have e:Sx.sum (fun _=>0) l=0:=by
  clear hc ho hl hN h
  induction l with
  |nil=>rfl
  |cons a r ih=>simp only [Sx.sum];rw [ih]
 rw [e] at hc
 have:(l.length+0) * 10000000000000≤10 * 10000000000000:=Nat.mul_le_mul_right _ (by omega)
 show (Rn.cat (Rn.stt n) l).length≤_
 omega
end Go.Proofs.YtcdcoiobpbdmpaaGreatDoor
namespace Go.Proofs.YtcdcoiobpbdmpaaGreatDoor
open Go.RowKit Go.Maps Go.ChangeMaps
theorem Kn.xk {n:Nat} {op z:Int} {nm:List UInt8} {L:List Sx.Tr} (h:Rn.xf (n+1) (Sx.tE op nm z L)=0):L.length≤2∧(op=2→L=[]∧nm.length≤12)∧ ∀ (i:Nat) x,L[i]? =some x→Rn.xf n x=0:=by
 have hx:Rn.xf (n+1) (Sx.tE op nm z L)=if op<1∨8<op∨L.length ≠ Rn.want op∨(z ≠ 0∧op ≠ 1)∨(nm ≠ []∧op ≠ 2) then (5:Int)
   else if op=2∧Tk.isN nm=false then 4
   else if z<0∨1000000000000000000≤z then 3
   else Rn.firstOf (Rn.xf n) L:=rfl
 rw [hx] at h
 split at h
 ·cases h
 rename_i hb
 split at h
 ·cases h
 rename_i hn
 split at h
 ·cases h
 have hs:=Rn.firstOf_zero h
 have hw:L.length=Rn.want op:=Decidable.byContradiction fun hc=>hb (.inr (.inr (.inl hc)))
 refine ⟨?_,fun h2=>⟨?_,?_⟩,fun i x hx=>hs x (List.mem_of_getElem? hx)⟩
 ·rw [hw];unfold Rn.want;split<;> try split
  all_goals omega
 ·rw [h2] at hw;exact List.length_eq_zero_iff.1 hw
 ·have hN:Tk.isN nm=true:=by
   cases hh:Tk.isN nm with
   |true=>rfl
   |false=>exact absurd ⟨h2,hh⟩ hn
  exact Rn.isN_len hN
def ExT (c:Kg) (n:Nat):Prop:= ∀ (w:World) (P:Nat→Prop) (op z:Int) (nm ty:List UInt8) (L:List Sx.Tr) (a:Option Addr) (k:Nat) (vv:Value) (bd ns:List Kn.Nv) (t:Nat),EL w P n L (.slice a L.length k)→Rn.xf (n+1) (Sx.tE op nm z L)=0→Kn.Sb ns bd→KS c w vv bd (Kn.fkn ns bd) t→
 Calls Tryz.prog 137 #[.pointer (some ⟨c.g,0,none⟩),.agg #[.int .i64 op,.string (bs nm),.int .i64 z,.slice a L.length k],.string (bs ty)] w fun e w'=>e= .returned (.int .i64 (Kn.exc (n+1) ns (Sx.tE op nm z L) ty))∧Kp [] w w'
set_option maxRecDepth 100000 in
set_option maxHeartbeats 1000000 in
theorem kExpr_step (c:Kg) (n:Nat) (ih:ExT c n):ExT c (n+1):=by
 intro w P op z nm ty L a k vv bd ns t h hx hsb hks
 obtain ⟨hl,h2,hr⟩:=Kn.xk hx
 have HR:=hide hr
 have HS:=hide h
 have IH:=hide ih
 have H:=hide hks
 have SB:=hide hsb
 have HE:Kn.exc (n+1+1) ns (Sx.tE op nm z L) ty=if op=2 then Kn.tc ns nm ty else if ty ≠ [105] then 11 else Rn.firstOf (fun x=>Kn.exc (n+1) ns x [105]) L:=rfl
 rw [HE]
 have hmf: ∀ (fn:Fn) (first cap:Array Value) (w:World),(Instr.makeFunc fn first cap).run Tryz.prog w= .ok (.func fn first cap) w:=fun _ _ _ _=>rfl
 clear h ih hks hsb HE hr hx
 by_cases o2:op=2
 ·rw [if_pos o2]
  subst o2
  have hln:=(h2 rfl).2
  have HC:=hide (fun w' x (hk:Kp [] w w') hx=>kCode_eq c w' vv bd ns t nm ty x (H.out.kp hk) SB.out (by omega) hx)
  clear h2
  go_enter Tryz.func137,Tryz.ntmps137
  go_wp2_with fail
  refine (HC.out _ _ (((Kp.refl _ _).alloc _).alloc _) (by simp [go_sem])).mono ?_
  rintro e w1 ⟨rfl,k1⟩
  have K1:=hide ((((Kp.refl [] w).alloc _).alloc _).trans k1)
  clear k1
  go_wp2
  go_ret
  exact ⟨rfl,K1.out⟩
 ·rw [if_neg o2]
  have q2:(op == 2)=false:=by simpa using o2
  clear h2
  by_cases hi:ty=[105]
  ·subst hi
   rw [if_neg (by simp)]
   have qi:((bs [105]).toList == [105])=true:=by rw [bsl];rfl
   go_enter Tryz.func137,Tryz.ntmps137
   go_wp2
   go_loopw [23] (fun iv wr=> ∃ i:Nat,i≤L.length∧iv= .int .i64 i∧Hid (Rn.firstOf (fun x=>Kn.exc (n+1) ns x [105]) L=Rn.firstOf (fun x=>Kn.exc (n+1) ns x [105]) (L.drop i))∧Hid (Kp [] w wr)) (fun iv _=>L.length - (intOf iv).toNat)
   case atStart=>exact ⟨0,Nat.zero_le _,rfl,rfl,hide (((Kp.refl _ _).alloc _).alloc _)⟩
   case round=>
    obtain ⟨i,hil,rfl,HF,HK⟩:=hrel
    by_cases hlt:i<L.length
    ·have d1:decide ((i:Int)<(L.length:Int))=true:=by simp;omega
     obtain ⟨b,off,op1,nm1,z1,L1,aL,cL,rfl,-,hd,m0,m1,m2,m3,hL⟩:=(HS.out.keep HK.out (by simp)).nth i hlt
     have HX:=hide (HR.out i _ hd)
     have HLe:=hide hL
     have HC:=hide (fun w' (hk:Kp [] wr w')=>IH.out w' P op1 z1 nm1 [105] L1 aL cL vv bd ns t (HLe.out.keep hk (by simp)) HX.out SB.out (H.out.kp (HK.out.trans hk)))
     have HDR:=hide (drop_nth hd)
     have HFF:Hid (Rn.firstOf (fun x=>Kn.exc (n+1) ns x [105]) L=if Kn.exc (n+1) ns (Sx.tE op1 nm1 z1 L1) [105] ≠ 0 then Kn.exc (n+1) ns (Sx.tE op1 nm1 z1 L1) [105] else Rn.firstOf (fun x=>Kn.exc (n+1) ns x [105]) (L.drop (i+1))):=hide (by rw [HF.out,HDR.out];rfl)
     have hk0:(0:Int)≤(i:Int):=by omega
     have hk1:(i:Int)<(L.length:Int):=by omega
     generalize Kn.exc (n+1) ns (Sx.tE op1 nm1 z1 L1) [105]=C at *
     clear hL hd HDR HX
     go_wp2_with fail
     refine (HC.out _ ((Kp.refl _ _).alloc _)).mono ?_
     rintro e w2 ⟨rfl,k2⟩
     have K2:=hide (HK.out.trans (((Kp.refl [] wr).alloc _).trans k2))
     clear k2
     by_cases hC:C=0
     ·subst hC
      go_wp2
      go_roundw
      case rel=>exact ⟨i+1,by omega,by go_num,hide (by rw [HFF.out,if_neg (by simp)]),K2⟩
      case measure=>simp [intOf];omega
     ·have q3:(C !=0)=true:=by simpa using hC
      have e1:=HFF.out
      rw [if_pos hC] at e1
      clear HFF hC
      go_wp2
      go_ret
      exact ⟨by rw [e1];rfl,K2.out⟩
    ·obtain rfl:i=L.length:=by omega
     have d1:decide ((L.length:Int)<(L.length:Int))=false:=by simp
     go_wp2
     go_ret
     refine ⟨?_,HK.out⟩
     rw [HF.out,List.drop_length]
     rfl
  ·rw [if_pos hi]
   have qi:((bs ty).toList == [105])=false:=by rw [bsl];simpa using hi
   go_enter Tryz.func137,Tryz.ntmps137
   go_wp2
   go_ret
   exact ⟨rfl,((Kp.refl _ _).alloc _).alloc _⟩
theorem kExpr_any (c:Kg) (n:Nat):ExT c n:=by
 induction n with
 |zero=>intro w P op z nm ty L a k vv bd ns t h;cases h
 |succ n ih=>exact kExpr_step c n ih
end Go.Proofs.YtcdcoiobpbdmpaaGreatDoor
