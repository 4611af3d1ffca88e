import Derived.Test.YthcapfojofahkaaGreatDoorMbn
namespace Go.Proofs.YthcapfojofahkaaGreatDoor
open Go.RowKit
set_option linter.unusedSimpArgs false in
set_option maxRecDepth 100000 in
set_option maxHeartbeats 2000000 in
theorem stmtText_12 (n:Nat) (ih:BTt n):STt n 12:=by
 intro w P at' A B T N E body els aE aB aL cE cB cL k hT hE hB hL hf ob ol hk hwb hwl
 obtain rfl:els=[]:=hf.nilO rfl
 obtain rfl:E=[]:=List.length_eq_zero_iff.1 (hf.one (by decide))
 have qA:=Rn.isN_ne (hf.naA rfl)
 have lA:=Rn.isN_len (hf.naA rfl)
 have zA:(bs A).size≤12:=by rw [bsz];exact Rn.isN_len (hf.naA rfl)
 have qB:=Rn.isN_ne (hf.naB rfl)
 have lB:=Rn.isN_len (hf.naB rfl)
 have zB:(bs B).size≤12:=by rw [bsz];exact Rn.isN_len (hf.naB rfl)
 have zk:(bs (Rn.tabs k)).size≤1500000:=by rw [bsz,Rn.tabs,List.length_replicate];omega
 have hbb:=Rn.blt_small hB ob hk hwb
 have zb:(bs ([32]++Rn.blt n k body)).size≤5000000000001:=by rw [bsz,List.length_append];simp;omega
 have HBt:=hide (fun W (hk':Kp [] w W)=>ih W P body aB cB k (hT.kp hk') (hB.keep hk' (by simp)) ob hk hwb)
 have e0:(bs []).toList=[]:=bs0
 clear hE hB hL hf ob ol hT ih hbb
 have ET:Hid (Rn.st1 n k (Sx.tS 12 at' A B T N [] body [])=(Rn.tabs k++[102,111,114]++([32]++A)++[32,102,114,111,109]++([32]++B))++([32]++Rn.blt n k body)++[10]):=by
  show _=_
  simp [Rn.st1,Rn.ahead,Rn.hasS,Sx.sH,Sx.sE,Sx.sB,Sx.sO,Sx.tS,Rn.com]
 generalize Rn.st1 n k (Sx.tS 12 at' A B T N [] body [])=Z at *
 generalize [32]++Rn.blt n k body=BB at *
 go_enter Tryz.func69,Tryz.ntmps69
 go_wp2_with fail
 go_loopw [6,7] (fun ov iv wr=>iv= .int .i64 0∧ov= .string (bs (Rn.tabs k++[102,111,114]++([32]++A)++[32,102,114,111,109]++([32]++B)))∧Hid (Kp [] w wr)∧wr.cell? ⟨w.heap.size,0,none⟩=some (.int .i64 12)∧wr.cell? ⟨w.heap.size,6,none⟩=some (.slice aE 0 cE)∧wr.cell? ⟨w.heap.size,7,none⟩=some (.slice aB body.length cB)∧wr.cell? ⟨w.heap.size,8,none⟩=some (.slice aL 0 cL)) (fun _ _ _=>0)
 case atStart=>exact ⟨rfl,by first|rfl|(congr 1;apply ByteArray.ext;simp [bs,Rn.el,Rn.com];done),((Kp.refl _ _).alloc _).alloc _,by simp [go_sem],by simp [go_sem],by simp [go_sem],by simp [go_sem]⟩
 case round=>
  obtain ⟨rfl,rfl,HK,u0,u6,u7,u8⟩:=hrel
  have zO:(bs (Rn.tabs k++[102,111,114]++([32]++A)++[32,102,114,111,109]++([32]++B))).size≤3000000:=by
   rw [bsz]
   simp only [List.length_append,Rn.tabs,List.length_replicate,List.length_cons,List.length_nil]
   omega
  generalize (Rn.tabs k++[102,111,114]++([32]++A)++[32,102,114,111,109]++([32]++B))=Y at *
  go_wp2_with fail
  refine (HBt.out _ HK.out).mono ?_
  rintro e w4 ⟨rfl,hk4⟩
  have K4:=hide (HK.out.trans hk4)
  have x8:=hk4.some u8 (by simp)
  clear hk4
  go_wp2
  go_ret
  exact ⟨by rw [ET.out,←bs_append,←bs_append];rfl,K4.out⟩
end Go.Proofs.YthcapfojofahkaaGreatDoor
namespace Go.Proofs.YthcapfojofahkaaGreatDoor
open Go.RowKit
set_option linter.unusedSimpArgs false in
set_option maxRecDepth 100000 in
set_option maxHeartbeats 2000000 in
theorem stmtText_13 (n:Nat) (ih:BTt n):STt n 13:=by
 intro w P at' A B T N E body els aE aB aL cE cB cL k hT hE hB hL hf ob ol hk hwb hwl
 obtain rfl:A=[]:=hf.nilA rfl
 obtain rfl:B=[]:=hf.nilB rfl
 obtain rfl:els=[]:=hf.nilO rfl
 have zk:(bs (Rn.tabs k)).size≤1500000:=by rw [bsz,Rn.tabs,List.length_replicate];omega
 have hbb:=Rn.blt_small hB ob hk hwb
 have zb:(bs ([32]++Rn.blt n k body)).size≤5000000000001:=by rw [bsz,List.length_append];simp;omega
 have HBt:=hide (fun W (hk':Kp [] w W)=>ih W P body aB cB k (hT.kp hk') (hB.keep hk' (by simp)) ob hk hwb)
 have hE6:=hf.few
 have HEl:=hide hE
 have HTt:=hide hT
 have HXs:=hide hf.xs
 have HPr:=hide hf.prt
 have HCf:=hide (Rn.com_few hf)
 have HE1:Hid (E.length=1):=hf.one (by decide)
 have e0:(bs []).toList=[]:=bs0
 clear hE hB hL hf ob ol hT ih hbb
 have ET:Hid (Rn.st1 n k (Sx.tS 13 at' [] [] T N E body [])=(Rn.tabs k++[114,101,112,101,97,116]++Rn.el false (E.map (Rn.xt n 0)))++([32]++Rn.blt n k body)++[10]):=by
  have hne:(E.map (Rn.xt n 0)).isEmpty=false:=by cases E with
   |nil=>cases HE1.out
   |cons a r=>rfl
  show _=_
  unfold Rn.el
  rw [hne]
  simp [Rn.st1,Rn.ahead,Rn.hasS,Sx.sH,Sx.sE,Sx.sB,Sx.sO,Sx.tS,Rn.com]
 generalize Rn.st1 n k (Sx.tS 13 at' [] [] T N E body [])=Z at *
 generalize [32]++Rn.blt n k body=BB at *
 go_enter Tryz.func69,Tryz.ntmps69
 go_wp2_with fail
 go_loopw [6,7] (fun ov iv wr=> ∃ i:Nat,i≤E.length∧iv= .int .i64 i∧ov= .string (bs (Rn.tabs k++[114,101,112,101,97,116]++Rn.el false ((E.map (Rn.xt n 0)).take i)))∧Hid (Kp [] w wr)∧wr.cell? ⟨w.heap.size,0,none⟩=some (.int .i64 13)∧wr.cell? ⟨w.heap.size,6,none⟩=some (.slice aE E.length cE)∧wr.cell? ⟨w.heap.size,7,none⟩=some (.slice aB body.length cB)∧wr.cell? ⟨w.heap.size,8,none⟩=some (.slice aL 0 cL)) (fun _ iv _=>E.length - (intOf iv).toNat)
 case atStart=>exact ⟨0,Nat.zero_le _,rfl,by first|rfl|(congr 1;apply ByteArray.ext;simp [bs,Rn.el,Rn.com];done),((Kp.refl _ _).alloc _).alloc _,by simp [go_sem],by simp [go_sem],by simp [go_sem],by simp [go_sem]⟩
 case round=>
  obtain ⟨i,hi,rfl,rfl,HK,u0,u6,u7,u8⟩:=hrel
  have hel:=Rn.el_len false ((E.map (Rn.xt n 0)).take i)
  have hcf:=HCf.out i
  have zO:(bs (Rn.tabs k++[114,101,112,101,97,116]++Rn.el false ((E.map (Rn.xt n 0)).take i))).size≤3000000:=by
   rw [bsz]
   simp only [List.length_append,Rn.tabs,List.length_replicate,List.length_cons,List.length_nil]
   omega
  clear hel hcf
  by_cases hlt:i<E.length
  ·have d1:decide ((i:Int)<(E.length:Int))=true:=by simp;omega
   cases n with
   |zero=>cases HEl.out
   |succ n=>
    obtain ⟨b,off,op1,nm1,z1,L1,aL1,cL1,rfl,-,hd1,m0,m1,m2,m3,hL1⟩:=(HEl.out.keep HK.out (by simp)).nth i hlt
    have f1:=HXs.out i _ hd1
    have p1:=HPr.out i _ hd1
    have HX:=hide (exprText_any n wr P op1 z1 nm1 L1 aL1 cL1 0 (HTt.out.kp HK.out) hL1 f1 (by omega) (by omega))
    change Hid (Calls _ _ #[_,.int .i64 0] _ _) at HX
    have hm:(E.map (Rn.xt (n+1) 0))[i]? =some (Rn.xt (n+1) 0 (Sx.tE op1 nm1 z1 L1)):=by rw [List.getElem?_map,hd1];rfl
    have e1:=Rn.el_take (sp:=false) hm
    generalize hO:(Rn.tabs k++[114,101,112,101,97,116]++Rn.el false ((E.map (Rn.xt (n+1) 0)).take i))=O at *
    have E1:Hid (Rn.tabs k++[114,101,112,101,97,116]++Rn.el false ((E.map (Rn.xt (n+1) 0)).take (i+1))=O++((if i=0 then [] else [44])++(if i=0∧false=true then [] else [32])++Rn.xt (n+1) 0 (Sx.tE op1 nm1 z1 L1))):=hide (by rw [e1,←hO];simp only [List.append_assoc])
    clear e1 hO
    have hxl:=Rn.xt_len (n+1) 0 _ f1
    have zX:(bs (Rn.xt (n+1) 0 (Sx.tE op1 nm1 z1 L1))).size≤600:=by rw [bsz];omega
    have hk0:(0:Int)≤(i:Int):=by omega
    have hk1:(i:Int)<(E.length:Int):=by omega
    clear hd1 hL1 f1 p1 hm hxl
    generalize Rn.xt (n+1) 0 (Sx.tE op1 nm1 z1 L1)=X1 at *
    obtain rfl:i=0:=by have:=HE1.out;omega
    rw [Nat.zero_mul,Nat.add_zero] at m0 m1 m2 m3
    go_wp2_with fail
    refine HX.out.mono ?_
    rintro e w3 ⟨rfl,hk3⟩
    have K3:=hide (HK.out.trans hk3)
    have v0:=hk3.some u0 (by simp)
    have v6:=hk3.some u6 (by simp)
    have v7:=hk3.some u7 (by simp)
    have v8:=hk3.some u8 (by simp)
    clear hk3
    go_wp2
    go_roundw
    case rel=>exact ⟨1,by omega,by go_num,by rw [E1.out];first|(congr 1;done)|(congr 1;apply ByteArray.ext;simp [bs];done),K3.out,v0,v6,v7,v8⟩
    case measure=>first|(simp [intOf];done)|(simp [intOf];omega)
  ·obtain rfl:i=E.length:=by omega
   have d1:decide ((E.length:Int)<(E.length:Int))=false:=by simp
   rw [List.take_of_length_le (by simp)] at zO ⊢
   generalize (Rn.tabs k++[114,101,112,101,97,116]++Rn.el false (E.map (Rn.xt n 0)))=Y at *
   go_wp2_with fail
   refine (HBt.out _ HK.out).mono ?_
   rintro e w4 ⟨rfl,hk4⟩
   have K4:=hide (HK.out.trans hk4)
   have x8:=hk4.some u8 (by simp)
   clear hk4
   go_wp2
   go_ret
   exact ⟨by rw [ET.out,←bs_append,←bs_append];rfl,K4.out⟩
end Go.Proofs.YthcapfojofahkaaGreatDoor
namespace Go.Proofs.YthcapfojofahkaaGreatDoor
open Go.RowKit
set_option linter.unusedSimpArgs false in
set_option maxRecDepth 100000 in
set_option maxHeartbeats 2000000 in
theorem stmtText_14 (n:Nat) (ih:BTt n):STt n 14:=by
 intro w P at' A B T N E body els aE aB aL cE cB cL k hT hE hB hL hf ob ol hk hwb hwl
 obtain rfl:A=[]:=hf.nilA rfl
 obtain rfl:B=[]:=hf.nilB rfl
 have zk:(bs (Rn.tabs k)).size≤1500000:=by rw [bsz,Rn.tabs,List.length_replicate];omega
 have hbb:=Rn.blt_small hB ob hk hwb
 have zb:(bs ([32]++Rn.blt n k body)).size≤5000000000001:=by rw [bsz,List.length_append];simp;omega
 have HBt:=hide (fun W (hk':Kp [] w W)=>ih W P body aB cB k (hT.kp hk') (hB.keep hk' (by simp)) ob hk hwb)
 have hbl:=Rn.blt_small hL ol hk hwl
 have zl:(bs ([32]++Rn.blt n k els)).size≤5000000000001:=by rw [bsz,List.length_append];simp;omega
 have HLt:=hide (fun W (hk':Kp [] w W)=>ih W P els aL cL k (hT.kp hk') (hL.keep hk' (by simp)) ol hk hwl)
 have hE6:=hf.few
 have HEl:=hide hE
 have HTt:=hide hT
 have HXs:=hide hf.xs
 have HPr:=hide hf.prt
 have HCf:=hide (Rn.com_few hf)
 have HE1:Hid (E.length=1):=hf.one (by decide)
 have e0:(bs []).toList=[]:=bs0
 clear hE hB hL hf ob ol hT ih hbb hbl
 have ET:Hid (Rn.st1 n k (Sx.tS 14 at' [] [] T N E body els)=(Rn.tabs k++[105,102]++Rn.el false (E.map (Rn.xt n 0)))++([32]++Rn.blt n k body)++(if els.isEmpty then [] else [32,101,108,115,101]++([32]++Rn.blt n k els))++[10]):=by
  have hne:(E.map (Rn.xt n 0)).isEmpty=false:=by cases E with
   |nil=>cases HE1.out
   |cons a r=>rfl
  show _=_
  unfold Rn.el
  rw [hne]
  cases els with
  |nil=>simp [Rn.st1,Rn.ahead,Rn.hasS,Sx.sH,Sx.sE,Sx.sB,Sx.sO,Sx.tS,Rn.com]
  |cons d r=>simp [Rn.st1,Rn.ahead,Rn.hasS,Sx.sH,Sx.sE,Sx.sB,Sx.sO,Sx.tS,Rn.com]
 generalize Rn.st1 n k (Sx.tS 14 at' [] [] T N E body els)=Z at *
 generalize [32]++Rn.blt n k body=BB at *
 generalize [32]++Rn.blt n k els=BL at *
 go_enter Tryz.func69,Tryz.ntmps69
 go_wp2_with fail
 go_loopw [6,7] (fun ov iv wr=> ∃ i:Nat,i≤E.length∧iv= .int .i64 i∧ov= .string (bs (Rn.tabs k++[105,102]++Rn.el false ((E.map (Rn.xt n 0)).take i)))∧Hid (Kp [] w wr)∧wr.cell? ⟨w.heap.size,0,none⟩=some (.int .i64 14)∧wr.cell? ⟨w.heap.size,6,none⟩=some (.slice aE E.length cE)∧wr.cell? ⟨w.heap.size,7,none⟩=some (.slice aB body.length cB)∧wr.cell? ⟨w.heap.size,8,none⟩=some (.slice aL els.length cL)) (fun _ iv _=>E.length - (intOf iv).toNat)
 case atStart=>exact ⟨0,Nat.zero_le _,rfl,by first|rfl|(congr 1;apply ByteArray.ext;simp [bs,Rn.el,Rn.com];done),((Kp.refl _ _).alloc _).alloc _,by simp [go_sem],by simp [go_sem],by simp [go_sem],by simp [go_sem]⟩
 case round=>
  obtain ⟨i,hi,rfl,rfl,HK,u0,u6,u7,u8⟩:=hrel
  have hel:=Rn.el_len false ((E.map (Rn.xt n 0)).take i)
  have hcf:=HCf.out i
  have zO:(bs (Rn.tabs k++[105,102]++Rn.el false ((E.map (Rn.xt n 0)).take i))).size≤3000000:=by
   rw [bsz]
   simp only [List.length_append,Rn.tabs,List.length_replicate,List.length_cons,List.length_nil]
   omega
  clear hel hcf
  by_cases hlt:i<E.length
  ·have d1:decide ((i:Int)<(E.length:Int))=true:=by simp;omega
   cases n with
   |zero=>cases HEl.out
   |succ n=>
    obtain ⟨b,off,op1,nm1,z1,L1,aL1,cL1,rfl,-,hd1,m0,m1,m2,m3,hL1⟩:=(HEl.out.keep HK.out (by simp)).nth i hlt
    have f1:=HXs.out i _ hd1
    have p1:=HPr.out i _ hd1
    have HX:=hide (exprText_any n wr P op1 z1 nm1 L1 aL1 cL1 0 (HTt.out.kp HK.out) hL1 f1 (by omega) (by omega))
    change Hid (Calls _ _ #[_,.int .i64 0] _ _) at HX
    have hm:(E.map (Rn.xt (n+1) 0))[i]? =some (Rn.xt (n+1) 0 (Sx.tE op1 nm1 z1 L1)):=by rw [List.getElem?_map,hd1];rfl
    have e1:=Rn.el_take (sp:=false) hm
    generalize hO:(Rn.tabs k++[105,102]++Rn.el false ((E.map (Rn.xt (n+1) 0)).take i))=O at *
    have E1:Hid (Rn.tabs k++[105,102]++Rn.el false ((E.map (Rn.xt (n+1) 0)).take (i+1))=O++((if i=0 then [] else [44])++(if i=0∧false=true then [] else [32])++Rn.xt (n+1) 0 (Sx.tE op1 nm1 z1 L1))):=hide (by rw [e1,←hO];simp only [List.append_assoc])
    clear e1 hO
    have hxl:=Rn.xt_len (n+1) 0 _ f1
    have zX:(bs (Rn.xt (n+1) 0 (Sx.tE op1 nm1 z1 L1))).size≤600:=by rw [bsz];omega
    have hk0:(0:Int)≤(i:Int):=by omega
    have hk1:(i:Int)<(E.length:Int):=by omega
    clear hd1 hL1 f1 p1 hm hxl
    generalize Rn.xt (n+1) 0 (Sx.tE op1 nm1 z1 L1)=X1 at *
    obtain rfl:i=0:=by have:=HE1.out;omega
    rw [Nat.zero_mul,Nat.add_zero] at m0 m1 m2 m3
    go_wp2_with fail
    refine HX.out.mono ?_
    rintro e w3 ⟨rfl,hk3⟩
    have K3:=hide (HK.out.trans hk3)
    have v0:=hk3.some u0 (by simp)
    have v6:=hk3.some u6 (by simp)
    have v7:=hk3.some u7 (by simp)
    have v8:=hk3.some u8 (by simp)
    clear hk3
    go_wp2
    go_roundw
    case rel=>exact ⟨1,by omega,by go_num,by rw [E1.out];first|(congr 1;done)|(congr 1;apply ByteArray.ext;simp [bs];done),K3.out,v0,v6,v7,v8⟩
    case measure=>first|(simp [intOf];done)|(simp [intOf];omega)
  ·obtain rfl:i=E.length:=by omega
   have d1:decide ((E.length:Int)<(E.length:Int))=false:=by simp
   rw [List.take_of_length_le (by simp)] at zO ⊢
   generalize (Rn.tabs k++[105,102]++Rn.el false (E.map (Rn.xt n 0)))=Y at *
   go_wp2_with fail
   refine (HBt.out _ HK.out).mono ?_
   rintro e w4 ⟨rfl,hk4⟩
   have K4:=hide (HK.out.trans hk4)
   have x8:=hk4.some u8 (by simp)
   clear hk4
   cases els with
   |nil=>
    go_wp2
    go_ret
    have ET':Hid (Z=Y++BB++[10]):=hide (ET.out.trans (by simp))
    exact ⟨by rw [ET'.out,←bs_append,←bs_append];rfl,K4.out⟩
   |cons dd rr=>
    have d8:decide ((0:Int)<(((dd::rr).length:Nat):Int))=true:=decide_eq_true (by simp)
    go_wp2_with fail
    refine (HLt.out _ K4.out).mono ?_
    rintro e w5 ⟨rfl,hk5⟩
    have K5:=hide (K4.out.trans hk5)
    clear hk5
    go_wp2
    go_ret
    exact ⟨by rw [ET.out,if_neg (by simp),←bs_append,←bs_append,←bs_append,←bs_append];rfl,K5.out⟩
end Go.Proofs.YthcapfojofahkaaGreatDoor
