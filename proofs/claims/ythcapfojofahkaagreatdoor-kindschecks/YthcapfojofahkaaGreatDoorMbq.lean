import Derived.Test.YthcapfojofahkaaGreatDoorMbn
import Derived.Test.YthcapfojofahkaaGreatDoorMbo
import Derived.Test.YthcapfojofahkaaGreatDoorMbp
import Derived.BigQuiet
namespace Go.Proofs.YthcapfojofahkaaGreatDoor
open Go.RowKit
set_option linter.unusedSimpArgs false in
set_option maxRecDepth 100000 in
set_option maxHeartbeats 2000000 in
theorem stmtText_9 (n:Nat):STt n 9:=by
 intro w P at' A B T N E body els aE aB aL cE cB cL k hT hE hB hL hf ob ol hk hwb hwl
 obtain rfl:B=[]:=hf.nilB rfl
 obtain ⟨rfl,rfl⟩:=hf.nil rfl
 obtain rfl:E=[]:=List.length_eq_zero_iff.1 (hf.one (by decide))
 have qA:=Rn.isN_ne (hf.naA rfl)
 have lA:=Rn.isN_len (hf.naA rfl)
 have zA:(bs A).size≤12:=by rw [bsz];exact Rn.isN_len (hf.naA rfl)
 have zk:(bs (Rn.tabs k)).size≤1500000:=by rw [bsz,Rn.tabs,List.length_replicate];omega
 have e0:(bs []).toList=[]:=bs0
 clear hE hB hL hf ob ol hT
 have ET:Hid (Rn.st1 n k (Sx.tS 9 at' A [] T N [] [] [])=(Rn.tabs k++[100,114,97,105,110]++([32]++A))++[59,10]):=by
  show _=_
  simp [Rn.st1,Rn.ahead,Rn.hasS,Sx.sH,Sx.sE,Sx.sB,Sx.sO,Sx.tS,Rn.com]
 generalize Rn.st1 n k (Sx.tS 9 at' A [] T N [] [] [])=Z at *
 go_enter Tryz.func69,Tryz.ntmps69
 go_wp2_with fail
 go_loopw [6,7] (fun ov iv wr=>iv= .int .i64 0∧ov= .string (bs (Rn.tabs k++[100,114,97,105,110]++([32]++A)))∧Hid (Kp [] w wr)∧wr.cell? ⟨w.heap.size,0,none⟩=some (.int .i64 9)∧wr.cell? ⟨w.heap.size,6,none⟩=some (.slice aE 0 cE)) (fun _ _ _=>0)
 case atStart=>exact ⟨rfl,by first|rfl|(congr 1;apply ByteArray.ext;simp [bs,Rn.el,Rn.com];done),((Kp.refl _ _).alloc _).alloc _,by simp [go_sem],by simp [go_sem]⟩
 case round=>
  obtain ⟨rfl,rfl,HK,u0,u6⟩:=hrel
  have zO:(bs (Rn.tabs k++[100,114,97,105,110]++([32]++A))).size≤3000000:=by
   rw [bsz]
   simp only [List.length_append,Rn.tabs,List.length_replicate,List.length_cons,List.length_nil]
   omega
  generalize (Rn.tabs k++[100,114,97,105,110]++([32]++A))=Y at *
  go_wp2
  go_ret
  exact ⟨by rw [ET.out,←bs_append];rfl,HK.out⟩
end Go.Proofs.YthcapfojofahkaaGreatDoor
namespace Go.Proofs.YthcapfojofahkaaGreatDoor
open Go.RowKit
set_option linter.unusedSimpArgs false in
set_option maxRecDepth 100000 in
set_option maxHeartbeats 2000000 in
theorem stmtText_10 (n:Nat):STt n 10:=by
 intro w P at' A B T N E body els aE aB aL cE cB cL k hT hE hB hL hf ob ol hk hwb hwl
 obtain rfl:B=[]:=hf.nilB rfl
 obtain ⟨rfl,rfl⟩:=hf.nil rfl
 have qA:=Rn.isN_ne (hf.naA rfl)
 have lA:=Rn.isN_len (hf.naA rfl)
 have zA:(bs A).size≤12:=by rw [bsz];exact Rn.isN_len (hf.naA rfl)
 have zk:(bs (Rn.tabs k)).size≤1500000:=by rw [bsz,Rn.tabs,List.length_replicate];omega
 have hE6:=hf.few
 have HEl:=hide hE
 have HTt:=hide hT
 have HXs:=hide hf.xs
 have HPr:=hide hf.prt
 have HCf:=hide (Rn.com_few hf)
 have e0:(bs []).toList=[]:=bs0
 clear hE hB hL hf ob ol hT
 have ET:Hid (Rn.st1 n k (Sx.tS 10 at' A [] T N E [] [])=(Rn.tabs k++[115,112,97,119,110]++([32]++A)++[40]++Rn.el true (E.map (Rn.xt n 0))++[41])++[59,10]):=by
  show _=_
  unfold Rn.el
  simp [Rn.st1,Rn.ahead,Rn.hasS,Sx.sH,Sx.sE,Sx.sB,Sx.sO,Sx.tS,Rn.com]
 generalize Rn.st1 n k (Sx.tS 10 at' A [] T N E [] [])=Z at *
 go_enter Tryz.func69,Tryz.ntmps69
 go_wp2_with fail
 go_loopw [6,7] (fun ov iv wr=> ∃ i:Nat,i≤E.length∧iv= .int .i64 i∧ov= .string (bs (Rn.tabs k++[115,112,97,119,110]++([32]++A)++[40]++Rn.el true ((E.map (Rn.xt n 0)).take i)))∧Hid (Kp [] w wr)∧wr.cell? ⟨w.heap.size,0,none⟩=some (.int .i64 10)∧wr.cell? ⟨w.heap.size,6,none⟩=some (.slice aE E.length cE)∧wr.cell? ⟨w.heap.size,7,none⟩=some (.slice aB 0 cB)∧wr.cell? ⟨w.heap.size,8,none⟩=some (.slice aL 0 cL)) (fun _ iv _=>E.length - (intOf iv).toNat)
 case atStart=>exact ⟨0,Nat.zero_le _,rfl,by first|rfl|(congr 1;apply ByteArray.ext;simp [bs,Rn.el,Rn.com];done),((Kp.refl _ _).alloc _).alloc _,by simp [go_sem],by simp [go_sem],by simp [go_sem],by simp [go_sem]⟩
 case round=>
  obtain ⟨i,hi,rfl,rfl,HK,u0,u6,u7,u8⟩:=hrel
  have hel:=Rn.el_len true ((E.map (Rn.xt n 0)).take i)
  have hcf:=HCf.out i
  have zO:(bs (Rn.tabs k++[115,112,97,119,110]++([32]++A)++[40]++Rn.el true ((E.map (Rn.xt n 0)).take i))).size≤3000000:=by
   rw [bsz]
   simp only [List.length_append,Rn.tabs,List.length_replicate,List.length_cons,List.length_nil]
   omega
  clear hel hcf
  by_cases hlt:i<E.length
  ·have d1:decide ((i:Int)<(E.length:Int))=true:=by simp;omega
   cases n with
   |zero=>cases HEl.out
   |succ n=>
    obtain ⟨b,off,op1,nm1,z1,L1,aL1,cL1,rfl,-,hd1,m0,m1,m2,m3,hL1⟩:=(HEl.out.keep HK.out (by simp)).nth i hlt
    have f1:=HXs.out i _ hd1
    have p1:=HPr.out i _ hd1
    have HX:=hide (exprText_any n wr P op1 z1 nm1 L1 aL1 cL1 0 (HTt.out.kp HK.out) hL1 f1 (by omega) (by omega))
    change Hid (Calls _ _ #[_,.int .i64 0] _ _) at HX
    have hm:(E.map (Rn.xt (n+1) 0))[i]? =some (Rn.xt (n+1) 0 (Sx.tE op1 nm1 z1 L1)):=by rw [List.getElem?_map,hd1];rfl
    have e1:=Rn.el_take (sp:=true) hm
    generalize hO:(Rn.tabs k++[115,112,97,119,110]++([32]++A)++[40]++Rn.el true ((E.map (Rn.xt (n+1) 0)).take i))=O at *
    have E1:Hid (Rn.tabs k++[115,112,97,119,110]++([32]++A)++[40]++Rn.el true ((E.map (Rn.xt (n+1) 0)).take (i+1))=O++((if i=0 then [] else [44])++(if i=0∧true=true then [] else [32])++Rn.xt (n+1) 0 (Sx.tE op1 nm1 z1 L1))):=hide (by rw [e1,←hO];simp only [List.append_assoc])
    clear e1 hO
    have hxl:=Rn.xt_len (n+1) 0 _ f1
    have zX:(bs (Rn.xt (n+1) 0 (Sx.tE op1 nm1 z1 L1))).size≤600:=by rw [bsz];omega
    have hk0:(0:Int)≤(i:Int):=by omega
    have hk1:(i:Int)<(E.length:Int):=by omega
    clear hd1 hL1 f1 p1 hm hxl
    generalize Rn.xt (n+1) 0 (Sx.tE op1 nm1 z1 L1)=X1 at *
    by_cases h0:i=0
    ·subst h0
     rw [Nat.zero_mul,Nat.add_zero] at m0 m1 m2 m3
     go_wp2_with fail
     refine HX.out.mono ?_
     rintro e w3 ⟨rfl,hk3⟩
     have K3:=hide (HK.out.trans hk3)
     have v0:=hk3.some u0 (by simp)
     have v6:=hk3.some u6 (by simp)
     have v7:=hk3.some u7 (by simp)
     have v8:=hk3.some u8 (by simp)
     clear hk3
     go_wp2
     go_roundw
     case rel=>exact ⟨1,by omega,by go_num,by rw [E1.out];first|(congr 1;done)|(congr 1;apply ByteArray.ext;simp [bs];done),K3.out,v0,v6,v7,v8⟩
     case measure=>first|(simp [intOf];done)|(simp [intOf];omega)
    ·have d2:decide ((0:Int)<(i:Int))=true:=decide_eq_true (by omega)
     go_wp2_with fail
     refine HX.out.mono ?_
     rintro e w3 ⟨rfl,hk3⟩
     have K3:=hide (HK.out.trans hk3)
     have v0:=hk3.some u0 (by simp)
     have v6:=hk3.some u6 (by simp)
     have v7:=hk3.some u7 (by simp)
     have v8:=hk3.some u8 (by simp)
     clear hk3
     go_wp2
     go_roundw
     case rel=>exact ⟨i+1,by omega,by go_num,by rw [E1.out];first|(congr 1;done)|(congr 1;apply ByteArray.ext;simp [bs,h0];done),K3.out,v0,v6,v7,v8⟩
     case measure=>first|(simp [intOf];done)|(simp [intOf];omega)
  ·obtain rfl:i=E.length:=by omega
   have d1:decide ((E.length:Int)<(E.length:Int))=false:=by simp
   rw [List.take_of_length_le (by simp)] at zO ⊢
   generalize (Rn.tabs k++[115,112,97,119,110]++([32]++A)++[40]++Rn.el true (E.map (Rn.xt n 0)))=Y at *
   go_wp2
   go_ret
   exact ⟨by rw [ET.out,←bs_append,←bs_append];rfl,HK.out⟩
end Go.Proofs.YthcapfojofahkaaGreatDoor
namespace Go.Proofs.YthcapfojofahkaaGreatDoor
open Go.RowKit
set_option linter.unusedSimpArgs false in
set_option maxRecDepth 100000 in
set_option maxHeartbeats 2000000 in
theorem stmtText_11 (n:Nat) (ih:BTt n):STt n 11:=by
 intro w P at' A B T N E body els aE aB aL cE cB cL k hT hE hB hL hf ob ol hk hwb hwl
 obtain rfl:E=[]:=List.length_eq_zero_iff.1 (hf.one (by decide))
 have qA:=Rn.isN_ne (hf.naA rfl)
 have lA:=Rn.isN_len (hf.naA rfl)
 have zA:(bs A).size≤12:=by rw [bsz];exact Rn.isN_len (hf.naA rfl)
 have qB:=Rn.isN_ne (hf.naB rfl)
 have lB:=Rn.isN_len (hf.naB rfl)
 have zB:(bs B).size≤12:=by rw [bsz];exact Rn.isN_len (hf.naB rfl)
 have zk:(bs (Rn.tabs k)).size≤1500000:=by rw [bsz,Rn.tabs,List.length_replicate];omega
 have hbb:=Rn.blt_small hB ob hk hwb
 have zb:(bs ([32]++Rn.blt n k body)).size≤5000000000001:=by rw [bsz,List.length_append];simp;omega
 have HBt:=hide (fun W (hk':Kp [] w W)=>ih W P body aB cB k (hT.kp hk') (hB.keep hk' (by simp)) ob hk hwb)
 have hbl:=Rn.blt_small hL ol hk hwl
 have zl:(bs ([32]++Rn.blt n k els)).size≤5000000000001:=by rw [bsz,List.length_append];simp;omega
 have HLt:=hide (fun W (hk':Kp [] w W)=>ih W P els aL cL k (hT.kp hk') (hL.keep hk' (by simp)) ol hk hwl)
 have e0:(bs []).toList=[]:=bs0
 clear hE hB hL hf ob ol hT ih hbb hbl
 have ET:Hid (Rn.st1 n k (Sx.tS 11 at' A B T N [] body els)=(Rn.tabs k++[116,97,107,101]++([32]++A)++[32,102,114,111,109]++([32]++B))++([32]++Rn.blt n k body)++(if els.isEmpty then [] else [32,101,108,115,101]++([32]++Rn.blt n k els))++[10]):=by
  show _=_
  cases els with
  |nil=>simp [Rn.st1,Rn.ahead,Rn.hasS,Sx.sH,Sx.sE,Sx.sB,Sx.sO,Sx.tS,Rn.com]
  |cons d r=>simp [Rn.st1,Rn.ahead,Rn.hasS,Sx.sH,Sx.sE,Sx.sB,Sx.sO,Sx.tS,Rn.com]
 generalize Rn.st1 n k (Sx.tS 11 at' A B T N [] body els)=Z at *
 generalize [32]++Rn.blt n k body=BB at *
 generalize [32]++Rn.blt n k els=BL at *
 go_enter Tryz.func69,Tryz.ntmps69
 go_wp2_with fail
 go_loopw [6,7] (fun ov iv wr=>iv= .int .i64 0∧ov= .string (bs (Rn.tabs k++[116,97,107,101]++([32]++A)++[32,102,114,111,109]++([32]++B)))∧Hid (Kp [] w wr)∧wr.cell? ⟨w.heap.size,0,none⟩=some (.int .i64 11)∧wr.cell? ⟨w.heap.size,6,none⟩=some (.slice aE 0 cE)∧wr.cell? ⟨w.heap.size,7,none⟩=some (.slice aB body.length cB)∧wr.cell? ⟨w.heap.size,8,none⟩=some (.slice aL els.length cL)) (fun _ _ _=>0)
 case atStart=>exact ⟨rfl,by first|rfl|(congr 1;apply ByteArray.ext;simp [bs,Rn.el,Rn.com];done),((Kp.refl _ _).alloc _).alloc _,by simp [go_sem],by simp [go_sem],by simp [go_sem],by simp [go_sem]⟩
 case round=>
  obtain ⟨rfl,rfl,HK,u0,u6,u7,u8⟩:=hrel
  have zO:(bs (Rn.tabs k++[116,97,107,101]++([32]++A)++[32,102,114,111,109]++([32]++B))).size≤3000000:=by
   rw [bsz]
   simp only [List.length_append,Rn.tabs,List.length_replicate,List.length_cons,List.length_nil]
   omega
  generalize (Rn.tabs k++[116,97,107,101]++([32]++A)++[32,102,114,111,109]++([32]++B))=Y at *
  go_wp2_with fail
  refine (HBt.out _ HK.out).mono ?_
  rintro e w4 ⟨rfl,hk4⟩
  have K4:=hide (HK.out.trans hk4)
  have x8:=hk4.some u8 (by simp)
  clear hk4
  cases els with
  |nil=>
   go_wp2
   go_ret
   have ET':Hid (Z=Y++BB++[10]):=hide (ET.out.trans (by simp))
   exact ⟨by rw [ET'.out,←bs_append,←bs_append];rfl,K4.out⟩
  |cons dd rr=>
   have d8:decide ((0:Int)<(((dd::rr).length:Nat):Int))=true:=decide_eq_true (by simp)
   go_wp2_with fail
   refine (HLt.out _ K4.out).mono ?_
   rintro e w5 ⟨rfl,hk5⟩
   have K5:=hide (K4.out.trans hk5)
   clear hk5
   go_wp2
   go_ret
   exact ⟨by rw [ET.out,if_neg (by simp),←bs_append,←bs_append,←bs_append,←bs_append];rfl,K5.out⟩
theorem stmtText_all (n:Nat) (ih:BTt n) (D:Int) (h1:1≤D) (h2:D≤14):STt n D:=by
 rcases Rn.kinds h1 h2 with rfl|rfl|rfl|rfl|rfl|rfl|rfl|rfl|rfl|rfl|rfl|rfl|rfl|rfl
 ·exact stmtText_1 n
 ·exact stmtText_2 n
 ·exact stmtText_3 n
 ·exact stmtText_4 n
 ·exact stmtText_5 n
 ·exact stmtText_6 n
 ·exact stmtText_7 n
 ·exact stmtText_8 n
 ·exact stmtText_9 n
 ·exact stmtText_10 n
 ·exact stmtText_11 n ih
 ·exact stmtText_12 n ih
 ·exact stmtText_13 n ih
 ·exact stmtText_14 n ih
theorem Rn.tabs_succ (k:Nat):bs (Rn.tabs k)++⟨#[9]⟩=bs (Rn.tabs (k+1)):=by
 rw [show (⟨#[9]⟩:ByteArray)=bs [9] from rfl,bs_append,Rn.tabs,Rn.tabs,List.replicate_succ']
set_option maxRecDepth 100000 in
set_option maxHeartbeats 1000000 in
theorem blockText_step (n:Nat) (ih:BTt n):BTt (n+1):=by
 intro w P l a c k hT hS ho hk hw
 have hsm:=Rn.blt_small (k:=k) hS ho hk hw
 rw [Rn.blt_st] at hsm ⊢
 simp only [List.length_append,Rn.tabs,List.length_replicate] at hsm
 have hlen:l.length≤1000000:=by have:l.length+_=Sx.wS (n+1) l:=rfl;omega
 have HE:=hide (Rn.okB_each ho)
 have HS:=hide hS
 have HT:=hide hT
 have HW:=hide hw
 have IH:=hide (fun D h1 h2=>stmtText_all n ih D h1 h2)
 have zk:(bs (Rn.tabs k)).size≤1500000:=by rw [bsz,Rn.tabs,List.length_replicate];omega
 have et:=Rn.tabs_succ k
 clear hT hS ho ih hw
 have EZ:Hid ([32]++([123,10]++Rn.cat (Rn.st1 n (k+1)) l++Rn.tabs k++[125])=[32,123,10]++Rn.cat (Rn.st1 n (k+1)) l++Rn.tabs k++[125]):=rfl
 generalize [32]++([123,10]++Rn.cat (Rn.st1 n (k+1)) l++Rn.tabs k++[125])=Z at *
 go_enter Tryz.func48,Tryz.ntmps48
 go_wp2_with fail
 go_loopw [5,6] (fun ov iv wr=> ∃ i:Nat,i≤l.length∧iv= .int .i64 i∧ov= .string (bs ([32,123,10]++Rn.cat (Rn.st1 n (k+1)) (l.take i)))∧Hid (Kp [] w wr)) (fun _ iv _=>l.length - (intOf iv).toNat)
 case atStart=>exact ⟨0,Nat.zero_le _,rfl,rfl,Kp.refl _ _⟩
 case round=>
  obtain ⟨i,hi,rfl,rfl,HK⟩:=hrel
  by_cases hlt:i<l.length
  ·have d1:decide ((i:Int)<(l.length:Int))=true:=by simp;omega
   obtain ⟨b,off,D,at',A,B,T,N,E,body,els,uE,uB,uL,rfl,_,hd,m0,m1,m2,m3,m4,m5,m6,m7,m8,hE,hB,hL⟩:=(HS.out.keep HK.out (by simp)).nth i hlt
   obtain ⟨aE,cE,rfl⟩:=hE.slice
   obtain ⟨aB,cB,rfl⟩:=hB.slice
   obtain ⟨aL,cL,rfl⟩:=hL.slice
   obtain ⟨⟨deep,o1⟩,o2,o3⟩:=HE.out _ (List.mem_of_getElem? hd)
   have hwt:=Nat.le_trans (Rn.wS_nth hd) HW.out
   have hwt':Sx.wE n E+Sx.wS n body+Sx.wS n els≤1000000:=hwt
   have okf:=Rn.okf o1
   have HX:=hide (IH.out D okf.d1 okf.d2 wr P at' A B T N E body els aE aB aL cE cB cL (k+1) (HT.out.kp HK.out) hE hB hL okf o2 o3 (by omega) (by omega) (by omega))
   have e1:=Rn.cat_take (g:=Rn.st1 n (k+1)) hd
   have hle:=Rn.cat_le (Rn.st1 n (k+1)) l (i+1)
   rw [e1,List.length_append] at hle
   have zO:(bs ([32,123,10]++Rn.cat (Rn.st1 n (k+1)) (l.take i))).size≤6000000000000:=by
    rw [bsz,List.length_append];simp only [List.length_cons,List.length_nil] at hsm ⊢;omega
   have zX:(bs (Rn.st1 n (k+1) (Sx.tS D at' A B T N E body els))).size≤6000000000000:=by
    rw [bsz];omega
   have E1:Hid ([32,123,10]++Rn.cat (Rn.st1 n (k+1)) (l.take (i+1))=([32,123,10]++Rn.cat (Rn.st1 n (k+1)) (l.take i))++Rn.st1 n (k+1) (Sx.tS D at' A B T N E body els)):=hide (by rw [e1,List.append_assoc])
   have hk0:(0:Int)≤(i:Int):=by omega
   have hk1:(i:Int)<(l.length:Int):=by omega
   clear hE hB hL o1 o2 o3 okf hwt hwt' e1 hle hd
   generalize Rn.st1 n (k+1) (Sx.tS D at' A B T N E body els)=X at *
   generalize [32,123,10]++Rn.cat (Rn.st1 n (k+1)) (l.take i)=O at *
   go_wp2_with fail
   refine HX.out.mono ?_
   rintro e w4 ⟨rfl,hk4⟩
   have K4:=hide (HK.out.trans hk4)
   clear hk4
   go_wp2
   go_roundw
   case rel=>exact ⟨i+1,by omega,by go_num,by rw [E1.out,←bs_append],K4.out⟩
   case measure=>simp [intOf];omega
  ·obtain rfl:i=l.length:=by omega
   have d1:decide ((l.length:Int)<(l.length:Int))=false:=by simp
   rw [List.take_length]
   have zO:(bs ([32,123,10]++Rn.cat (Rn.st1 n (k+1)) l)).size≤6000000000000:=by
    rw [bsz,List.length_append];simp only [List.length_cons,List.length_nil] at hsm ⊢;omega
   generalize [32,123,10]++Rn.cat (Rn.st1 n (k+1)) l=O at *
   go_wp2
   go_ret
   exact ⟨by rw [EZ.out,←bs_append,←bs_append];rfl,HK.out⟩
theorem blockText_any (n:Nat):BTt n:=by
 induction n with
 |zero=>intro w P l a c k _ hS;cases hS
 |succ n ih=>exact blockText_step n ih
end Go.Proofs.YthcapfojofahkaaGreatDoor
namespace Go.Proofs.YthcapfojofahkaaGreatDoor
open Go.RowKit
theorem Rn.hf_par {g:Sx.Tr} (h:Rn.hf g=0):Tk.isN (Sx.gN g)=true∧ ∀ p ∈ Sx.gP g,Tk.isN (Sx.pH p).1=true∧Rn.isT (Sx.pH p).2 3=true:=by
 unfold Rn.hf at h
 split at h
 ·cases h
 rename_i h1
 split at h
 ·cases h
 refine ⟨?_,fun p hp=> ?_⟩
 ·cases hh:Tk.isN (Sx.gN g) with
  |true=>rfl
  |false=>exact absurd hh h1
 ·have h3:=Rn.firstOf_zero h p hp
  split at h3
  ·cases h3
  rename_i h4
  split at h3
  ·cases h3
  rename_i h5
  refine ⟨?_,?_⟩
  ·cases hh:Tk.isN (Sx.pH p).1 with
   |true=>rfl
   |false=>exact absurd hh h4
  ·cases hh:Rn.isT (Sx.pH p).2 3 with
   |true=>rfl
   |false=>exact absurd hh h5
theorem Rn.isT_len {t:List UInt8} (h:Rn.isT t 3=true):t.length≤4:=by
 unfold Rn.isT at h
 simp only [Bool.and_eq_true,decide_eq_true_eq] at h
 omega
set_option maxRecDepth 100000 in
set_option maxHeartbeats 2000000 in
theorem rtext_any (n:Nat) (w:World) (P:Nat→Prop) (l:List Sx.Tr) (a:Option Addr) (c:Nat) (hT:Tb w) (h:Sl (RG w P n) w P l (.slice a l.length c)) (hN:Nm n l) (hl:l.length≤10) (ho: ∀ g ∈ l,Rn.hf g=0∧Rn.okB n (Sx.gB g)):
  Calls Tryz.prog 31 #[.agg #[.slice a l.length c]] w fun e w'=>e= .returned (.string (bs (Rn.pt n l)))∧Kp [] w w':=by
 have hpl:=Rn.pt_len h hN hl ho
 have hpl':(Rn.cat (Rn.stt n) l).length≤100000000000000:=hpl
 have HS:=hide h
 have HT:=hide hT
 have HN:=hide hN
 have HO:=hide ho
 have EZ:Hid (Rn.pt n l=Rn.cat (Rn.stt n) l):=rfl
 generalize Rn.pt n l=Z at *
 clear h hT hN ho hpl
 go_enter Tryz.func31,Tryz.ntmps31
 go_wp2_with fail
 go_loopw [3,4] (fun ov iv wr=> ∃ i:Nat,i≤l.length∧iv= .int .i64 i∧ov= .string (bs (Rn.cat (Rn.stt n) (l.take i)))∧Hid (Kp [] w wr)∧wr.cell? ⟨w.heap.size,0,none⟩=some (.slice a l.length c)) (fun _ iv _=>l.length - (intOf iv).toNat)
 case atStart=>exact ⟨0,Nat.zero_le _,rfl,rfl,(Kp.refl _ _).alloc _,by simp [go_sem]⟩
 case round=>
  obtain ⟨i,hi,rfl,rfl,HK,bx⟩:=hrel
  have hbx:=World.block_lt_of_cell? _ _ bx
  have hle0:=Rn.cat_le (Rn.stt n) l i
  by_cases hlt:i<l.length
  ·have d1:decide ((i:Int)<(l.length:Int))=true:=by simp;omega
   obtain ⟨b,off,nm,at',ps,body,uP,uB,rfl,-,hd,m0,m1,m2,m3,hP,hB⟩:=GL.nth (HS.out.keep HK.out (by simp) (fun d c h=>h.keep HK.out (by simp))) i hlt
   obtain ⟨aP,cP,rfl,-⟩:=id hP
   obtain ⟨aB,cB,rfl⟩:=hB.slice
   obtain ⟨o1,o2⟩:=HO.out _ (List.mem_of_getElem? hd)
   obtain ⟨q1,q2⟩:=Rn.hf_par o1
   have lN:nm.length≤12:=Rn.isN_len q1
   have l6:ps.length≤6:=(Rn.hf_ok o1).2.1
   have l33: ∀ p ∈ ps,(Rn.par1 p).length≤33:=(Rn.hf_ok o1).2.2
   have zN:(bs nm).size≤12:=by rw [bsz];exact lN
   have hws:Sx.wS n body≤1000000:=HN.out.ws i _ hd
   have hlv:=HN.out.lv
   have HQ2:Hid (∀ p ∈ ps,Tk.isN (Sx.pH p).1=true∧Rn.isT (Sx.pH p).2 3=true):=q2
   have HPs:=hide hP
   have HBt:=hide (fun W (hk':Kp [] wr W)=>blockText_any n W P body aB cB 0 (HT.out.kp (HK.out.trans hk')) (hB.keep hk' (by simp)) o2 (by omega) hws)
   change Hid (∀ W,_→Calls _ _ #[_,.string ⟨#[]⟩] _ _) at HBt
   have hbb:=Rn.blt_small (k:=0) hB o2 (by omega) hws
   have zb:(bs ([32]++Rn.blt n 0 body)).size≤5000000000001:=by rw [bsz,List.length_append];simp;omega
   have e1:=Rn.cat_take (g:=Rn.stt n) hd
   have E1:Hid (Rn.cat (Rn.stt n) (l.take (i+1))=Rn.cat (Rn.stt n) (l.take i)++([115,116,97,103,101,32]++nm++[40])++Rn.com (ps.map Rn.par1)++([41]++([32]++Rn.blt n 0 body)++[10])):=hide (by rw [e1,Rn.stt_is];simp)
   have HCm:Hid (∀ j,(Rn.com ((ps.map Rn.par1).take j)).length≤210):=hide (fun j=>by
    refine Nat.le_trans (Rn.com_take_le _ j) ?_
    have:=Rn.com_len (c:=33) (ps.map Rn.par1) (by
     intro s hs
     obtain ⟨p,hp,rfl⟩:=List.mem_map.1 hs
     exact l33 p hp)
    rw [List.length_map] at this
    have:ps.length * (33+2)≤6 * 35:=Nat.mul_le_mul_right 35 l6
    omega)
   have zO:(bs (Rn.cat (Rn.stt n) (l.take i))).size≤100000000000000:=by rw [bsz];omega
   have hk0:(0:Int)≤(i:Int):=by omega
   have hk1:(i:Int)<(l.length:Int):=by omega
   have hblt:=World.block_lt_of_cell? _ _ m0
   clear hd hP hB o1 o2 q1 q2 e1 hbb hws l33 hle0
   generalize [32]++Rn.blt n 0 body=BB at *
   generalize Rn.cat (Rn.stt n) (l.take i)=O at *
   go_wp2_with fail
   go_loopw [3,6] (fun ov kv wq=> ∃ j:Nat,j≤ps.length∧kv= .int .i64 j∧ov= .string (bs (O++([115,116,97,103,101,32]++nm++[40])++Rn.com ((ps.map Rn.par1).take j)))∧Hid (Kp [] wr wq)∧wq.cell? ⟨w.heap.size,0,none⟩=some (.slice (some ⟨b,off,none⟩) l.length c)∧wq.cell? ⟨wr.heap.size,2,none⟩=some (.slice aP ps.length cP)∧wq.cell? ⟨wr.heap.size,3,none⟩=some (.slice aB body.length cB)) (fun _ kv _=>ps.length - (intOf kv).toNat)
   case atStart=>exact ⟨0,Nat.zero_le _,rfl,by first|(congr 1;done)|(congr 1;apply ByteArray.ext;simp [bs,Rn.com];done),(Kp.refl _ _).alloc _,((Kp.refl [] _).alloc _).some bx (by simp),by simp [go_sem],by simp [go_sem]⟩
   case round=>
    obtain ⟨j,hj,rfl,rfl,KQ,by',u2,u3⟩:=hrel
    have hcm:=HCm.out j
    have zR:(bs (O++([115,116,97,103,101,32]++nm++[40])++Rn.com ((ps.map Rn.par1).take j))).size≤100000000001000:=by
     rw [bsz] at zO ⊢
     simp only [List.length_append,List.length_cons,List.length_nil]
     omega
    by_cases hlj:j<ps.length
    ·have d3:decide ((j:Int)<(ps.length:Int))=true:=by simp;omega
     obtain ⟨bp,op,pn,pT,rfl,hdp,y0,y1⟩:=(HPs.out.keep KQ.out (by simp) (fun _ _ h=>h)).nth' j hlj
     obtain ⟨t1,t2⟩:=HQ2.out _ (List.mem_of_getElem? hdp)
     have t2':Rn.isT pT 3=true:=t2
     have zP:(bs pn).size≤12:=by rw [bsz];exact Rn.isN_len t1
     have zT:(bs (Rn.tyw pT)).size≤20:=by rw [bsz];have:=Rn.tyw_len pT;have:=Rn.isT_len t2';omega
     have HKt:=hide (fun W=>kindText_any pT W t2' (Rn.isT_len t2'))
     have hm:(ps.map Rn.par1)[j]? =some (pn++[32]++Rn.tyw pT):=by rw [List.getElem?_map,hdp];rfl
     have e1:=Rn.com_take hm
     have E2:Hid (O++([115,116,97,103,101,32]++nm++[40])++Rn.com ((ps.map Rn.par1).take (j+1))=O++([115,116,97,103,101,32]++nm++[40])++Rn.com ((ps.map Rn.par1).take j)++((if j=0 then [] else [44,32])++(pn++[32]++Rn.tyw pT))):=hide (by rw [e1];simp only [List.append_assoc])
     generalize O++([115,116,97,103,101,32]++nm++[40])++Rn.com ((ps.map Rn.par1).take j)=R at *
     have hj0:(0:Int)≤(j:Int):=by omega
     have hj1:(j:Int)<(ps.length:Int):=by omega
     clear e1 hm hdp t1 t2 t2'
     by_cases h0:j=0
     ·subst h0
      rw [Nat.zero_mul,Nat.add_zero] at y0 y1
      go_wp2_with fail
      go_quiet (first|(go_at_call 47;with_reducible refine Calls.quiet_of_same (HKt.out _)))
      go_wp2
      go_roundw
      case rel=>exact ⟨1,by omega,by go_num,by rw [E2.out];first|(congr 1;done)|(congr 1;apply ByteArray.ext;simp [bs];done),KQ.out.drewN _,by',u2,u3⟩
      case measure=>simp [intOf];omega
     ·have d4:decide ((0:Int)<(j:Int))=true:=decide_eq_true (by omega)
      go_wp2_with fail
      go_quiet (first|(go_at_call 47;with_reducible refine Calls.quiet_of_same (HKt.out _)))
      go_wp2
      go_roundw
      case rel=>exact ⟨j+1,by omega,by go_num,by rw [E2.out];first|(congr 1;done)|(congr 1;apply ByteArray.ext;simp [bs,h0];done),KQ.out.drewN _,by',u2,u3⟩
      case measure=>simp [intOf];omega
    ·obtain rfl:j=ps.length:=by omega
     have d3:decide ((ps.length:Int)<(ps.length:Int))=false:=by simp
     rw [List.take_of_length_le (by simp)] at zR ⊢
     generalize O++([115,116,97,103,101,32]++nm++[40])++Rn.com (ps.map Rn.par1)=R at *
     go_wp2_with fail
     refine (HBt.out _ KQ.out).mono ?_
     rintro e w4 ⟨rfl,hk4⟩
     have K4:=hide (HK.out.trans (KQ.out.trans hk4))
     have bz:=hk4.some by' (by simp)
     clear hk4
     go_wp2
     go_roundw
     case rel=>exact ⟨i+1,by omega,by go_num,by rw [E1.out];first|(congr 1;done)|(congr 1;apply ByteArray.ext;simp [bs];done),K4.out,bz⟩
     case measure=>simp [intOf];omega
  ·obtain rfl:i=l.length:=by omega
   have d1:decide ((l.length:Int)<(l.length:Int))=false:=by simp
   rw [List.take_length]
   go_wp2
   go_ret
   exact ⟨by rw [EZ.out];rfl,HK.out⟩
end Go.Proofs.YthcapfojofahkaaGreatDoor
namespace Go.Proofs.YthcapfojofahkaaGreatDoor
open Go.RowKit
set_option maxRecDepth 100000 in
set_option maxHeartbeats 1000000 in
theorem renderFault_any (n:Nat) (w:World) (P:Nat→Prop) (l:List Sx.Tr) (a:Option Addr) (c:Nat) (hT:Tb w) (h:Sl (RG w P n) w P l (.slice a l.length c)) (hN:Nm n l):
  Calls Tryz.prog 15 #[.agg #[.slice a l.length c]] w fun e w'=>e= .returned (.agg #[.int .i64 (Rn.told n l).1,.int .i64 (Rn.told n l).2])∧Kp [] w w':=by
 have K2:Hid (Kp [] w ((w.alloc (.cells #[.slice a l.length c] 24)).alloc (.cells #[.int .i64 0,.int .i64 0] 30))):=hide (((Kp.refl _ _).alloc _).alloc _)
 have HC:=hide (formFault_any n _ P l a c (hT.kp K2.out) (h.keep K2.out (by simp) (fun d c h=>h.keep K2.out (by simp))) hN)
 have B2:Hid (FB w (.slice a l.length c) ((w.alloc (.cells #[.slice a l.length c] 24)).alloc (.cells #[.int .i64 0,.int .i64 0] 30))):=hide ⟨K2.out,by simp [go_sem],by simp [go_sem],by simp [go_sem],by simp [go_sem],by simp [go_sem]⟩
 by_cases hf:(Rn.pf n l).1=0
 ·obtain ⟨p1,p2,p3,p4⟩:=Rn.pf_ok hf
  have et:Rn.told n l=if 12000<(Rn.pt n l).length then (1,-1) else (0,0):=by unfold Rn.told;rw [if_neg (by rw [hf];simp)]
  have HX:=hide (fun W (hk:Kp [] w W)=>rtext_any n W P l a c (hT.kp hk) (h.keep hk (by simp) (fun d c h=>h.keep hk (by simp))) hN p3 p4)
  have zp:=bsz (Rn.pt n l)
  rw [p1] at HC
  rw [et]
  clear h hT hN p1 p2 p3 p4 hf et K2
  generalize Rn.pt n l=X at *
  by_cases hlg:12000<X.length
  ·have d2:decide ((12000:Int)<(X.length:Int))=true:=by simp;omega
   rw [if_pos hlg]
   go_enter Tryz.func15,Tryz.ntmps15
   go_wp2_with fail
   refine HC.out.mono ?_
   rintro e w3 ⟨rfl,hk3⟩
   have B3':=hide (B2.out.go hk3)
   have B3:=hide (B3'.out.go ((Kp.refl [] w3).alloc (.cells #[.int .i64 0,.int .i64 0] 30)))
   have bx:=B3'.out.bx
   have hbx:=World.block_lt_of_cell? _ _ bx
   clear hk3 HC
   go_wp2_with fail
   refine (HX.out _ B3.out.kp).mono ?_
   rintro e w4 ⟨rfl,hk4⟩
   have B4:=hide (B3.out.go hk4)
   clear hk4
   go_wp2_with fail
   refine (rFk_any 1 (-1) _).mono ?_
   rintro e w5 ⟨rfl,hk5⟩
   obtain ⟨k5,-,r0,r1,f0,f1⟩:=B4.out.go hk5
   clear hk5
   go_wp2
   refine bodyPost_ret (v:= .agg #[.int .i64 1,.int .i64 (-1)]) (by simp [results,Tryz.results15,go_sem,r0,r1]) rfl ⟨rfl,?_⟩
   exact (k5.nb (by omega) _ _).nb (by omega) _ _
  ·have d2:decide ((12000:Int)<(X.length:Int))=false:=by simp;omega
   rw [if_neg hlg]
   go_enter Tryz.func15,Tryz.ntmps15
   go_wp2_with fail
   refine HC.out.mono ?_
   rintro e w3 ⟨rfl,hk3⟩
   have B3':=hide (B2.out.go hk3)
   have B3:=hide (B3'.out.go ((Kp.refl [] w3).alloc (.cells #[.int .i64 0,.int .i64 0] 30)))
   have bx:=B3'.out.bx
   have hbx:=World.block_lt_of_cell? _ _ bx
   clear hk3 HC
   go_wp2_with fail
   refine (HX.out _ B3.out.kp).mono ?_
   rintro e w4 ⟨rfl,hk4⟩
   have x0:=hk4.some (p:=⟨w3.heap.size,0,none⟩) (v:= .int .i64 0) (by simp [go_sem]) (by simp)
   have x1:=hk4.some (p:=⟨w3.heap.size,1,none⟩) (v:= .int .i64 0) (by simp [go_sem]) (by simp)
   obtain ⟨k5,-,r0,r1,f0,f1⟩:=B3.out.go hk4
   clear hk4
   go_wp2
   refine bodyPost_ret (v:= .agg #[.int .i64 0,.int .i64 0]) (by simp [results,Tryz.results15,go_sem,r0,r1]) rfl ⟨rfl,?_⟩
   exact (k5.nb (by omega) _ _).nb (by omega) _ _
 ·have et:Rn.told n l=Rn.pf n l:=by unfold Rn.told;rw [if_pos hf]
  rw [et]
  have q1:((Rn.pf n l).1 == 0)=false:=by simpa using hf
  clear et hf h hT hN K2
  generalize Rn.pf n l=F at *
  go_enter Tryz.func15,Tryz.ntmps15
  go_wp2_with fail
  refine HC.out.mono ?_
  rintro e w3 ⟨rfl,hk3⟩
  obtain ⟨k5,-,r0,r1,f0,f1⟩:=B2.out.go hk3
  have hb4:=World.block_lt_of_cell? _ _ r0
  clear hk3 HC
  go_wp2
  refine bodyPost_ret (v:= .agg #[.int .i64 F.1,.int .i64 F.2]) (by simp [results,Tryz.results15,go_sem,r0,r1,hb4]) rfl ⟨rfl,?_⟩
  exact ((k5.nb (by omega) _ _).nb (by omega) _ _).alloc _
end Go.Proofs.YthcapfojofahkaaGreatDoor
