import Derived.Test.YthcapfojofahkaaGreatDoorMbn
namespace Go.Proofs.YthcapfojofahkaaGreatDoor
open Go.RowKit
set_option linter.unusedSimpArgs false in
set_option maxRecDepth 100000 in
set_option maxHeartbeats 2000000 in
theorem stmtText_1 (n:Nat):STt n 1:=by
 intro w P at' A B T N E body els aE aB aL cE cB cL k hT hE hB hL hf ob ol hk hwb hwl
 obtain rfl:B=[]:=hf.nilB rfl
 obtain ⟨rfl,rfl⟩:=hf.nil rfl
 have qA:=Rn.isN_ne (hf.naA rfl)
 have lA:=Rn.isN_len (hf.naA rfl)
 have zA:(bs A).size≤12:=by rw [bsz];exact Rn.isN_len (hf.naA rfl)
 have zk:(bs (Rn.tabs k)).size≤1500000:=by rw [bsz,Rn.tabs,List.length_replicate];omega
 have hE6:=hf.few
 have HEl:=hide hE
 have HTt:=hide hT
 have HXs:=hide hf.xs
 have HPr:=hide hf.prt
 have HCf:=hide (Rn.com_few hf)
 have HE1:Hid (E.length=1):=hf.one (by decide)
 have e0:(bs []).toList=[]:=bs0
 clear hE hB hL hf ob ol hT
 have ET:Hid (Rn.st1 n k (Sx.tS 1 at' A [] T N E [] [])=(Rn.tabs k++[108,101,116]++([32]++A)++[32,61]++Rn.el false (E.map (Rn.xt n 0)))++[59,10]):=by
  have hne:(E.map (Rn.xt n 0)).isEmpty=false:=by cases E with
   |nil=>cases HE1.out
   |cons a r=>rfl
  show _=_
  unfold Rn.el
  rw [hne]
  simp [Rn.st1,Rn.ahead,Rn.hasS,Sx.sH,Sx.sE,Sx.sB,Sx.sO,Sx.tS,Rn.com]
 generalize Rn.st1 n k (Sx.tS 1 at' A [] T N E [] [])=Z at *
 go_enter Tryz.func69,Tryz.ntmps69
 go_wp2_with fail
 go_loopw [6,7] (fun ov iv wr=> ∃ i:Nat,i≤E.length∧iv= .int .i64 i∧ov= .string (bs (Rn.tabs k++[108,101,116]++([32]++A)++[32,61]++Rn.el false ((E.map (Rn.xt n 0)).take i)))∧Hid (Kp [] w wr)∧wr.cell? ⟨w.heap.size,0,none⟩=some (.int .i64 1)∧wr.cell? ⟨w.heap.size,6,none⟩=some (.slice aE E.length cE)∧wr.cell? ⟨w.heap.size,7,none⟩=some (.slice aB 0 cB)∧wr.cell? ⟨w.heap.size,8,none⟩=some (.slice aL 0 cL)) (fun _ iv _=>E.length - (intOf iv).toNat)
 case atStart=>exact ⟨0,Nat.zero_le _,rfl,by first|rfl|(congr 1;apply ByteArray.ext;simp [bs,Rn.el,Rn.com];done),((Kp.refl _ _).alloc _).alloc _,by simp [go_sem],by simp [go_sem],by simp [go_sem],by simp [go_sem]⟩
 case round=>
  obtain ⟨i,hi,rfl,rfl,HK,u0,u6,u7,u8⟩:=hrel
  have hel:=Rn.el_len false ((E.map (Rn.xt n 0)).take i)
  have hcf:=HCf.out i
  have zO:(bs (Rn.tabs k++[108,101,116]++([32]++A)++[32,61]++Rn.el false ((E.map (Rn.xt n 0)).take i))).size≤3000000:=by
   rw [bsz]
   simp only [List.length_append,Rn.tabs,List.length_replicate,List.length_cons,List.length_nil]
   omega
  clear hel hcf
  by_cases hlt:i<E.length
  ·have d1:decide ((i:Int)<(E.length:Int))=true:=by simp;omega
   cases n with
   |zero=>cases HEl.out
   |succ n=>
    obtain ⟨b,off,op1,nm1,z1,L1,aL1,cL1,rfl,-,hd1,m0,m1,m2,m3,hL1⟩:=(HEl.out.keep HK.out (by simp)).nth i hlt
    have f1:=HXs.out i _ hd1
    have p1:=HPr.out i _ hd1
    have HX:=hide (exprText_any n wr P op1 z1 nm1 L1 aL1 cL1 0 (HTt.out.kp HK.out) hL1 f1 (by omega) (by omega))
    change Hid (Calls _ _ #[_,.int .i64 0] _ _) at HX
    have hm:(E.map (Rn.xt (n+1) 0))[i]? =some (Rn.xt (n+1) 0 (Sx.tE op1 nm1 z1 L1)):=by rw [List.getElem?_map,hd1];rfl
    have e1:=Rn.el_take (sp:=false) hm
    generalize hO:(Rn.tabs k++[108,101,116]++([32]++A)++[32,61]++Rn.el false ((E.map (Rn.xt (n+1) 0)).take i))=O at *
    have E1:Hid (Rn.tabs k++[108,101,116]++([32]++A)++[32,61]++Rn.el false ((E.map (Rn.xt (n+1) 0)).take (i+1))=O++((if i=0 then [] else [44])++(if i=0∧false=true then [] else [32])++Rn.xt (n+1) 0 (Sx.tE op1 nm1 z1 L1))):=hide (by rw [e1,←hO];simp only [List.append_assoc])
    clear e1 hO
    have hxl:=Rn.xt_len (n+1) 0 _ f1
    have zX:(bs (Rn.xt (n+1) 0 (Sx.tE op1 nm1 z1 L1))).size≤600:=by rw [bsz];omega
    have hk0:(0:Int)≤(i:Int):=by omega
    have hk1:(i:Int)<(E.length:Int):=by omega
    clear hd1 hL1 f1 p1 hm hxl
    generalize Rn.xt (n+1) 0 (Sx.tE op1 nm1 z1 L1)=X1 at *
    obtain rfl:i=0:=by have:=HE1.out;omega
    rw [Nat.zero_mul,Nat.add_zero] at m0 m1 m2 m3
    go_wp2_with fail
    refine HX.out.mono ?_
    rintro e w3 ⟨rfl,hk3⟩
    have K3:=hide (HK.out.trans hk3)
    have v0:=hk3.some u0 (by simp)
    have v6:=hk3.some u6 (by simp)
    have v7:=hk3.some u7 (by simp)
    have v8:=hk3.some u8 (by simp)
    clear hk3
    go_wp2
    go_roundw
    case rel=>exact ⟨1,by omega,by go_num,by rw [E1.out];first|(congr 1;done)|(congr 1;apply ByteArray.ext;simp [bs];done),K3.out,v0,v6,v7,v8⟩
    case measure=>first|(simp [intOf];done)|(simp [intOf];omega)
  ·obtain rfl:i=E.length:=by omega
   have d1:decide ((E.length:Int)<(E.length:Int))=false:=by simp
   rw [List.take_of_length_le (by simp)] at zO ⊢
   generalize (Rn.tabs k++[108,101,116]++([32]++A)++[32,61]++Rn.el false (E.map (Rn.xt n 0)))=Y at *
   go_wp2
   go_ret
   exact ⟨by rw [ET.out,←bs_append];rfl,HK.out⟩
end Go.Proofs.YthcapfojofahkaaGreatDoor
namespace Go.Proofs.YthcapfojofahkaaGreatDoor
open Go.RowKit
set_option linter.unusedSimpArgs false in
set_option maxRecDepth 100000 in
set_option maxHeartbeats 2000000 in
theorem stmtText_2 (n:Nat):STt n 2:=by
 intro w P at' A B T N E body els aE aB aL cE cB cL k hT hE hB hL hf ob ol hk hwb hwl
 obtain rfl:B=[]:=hf.nilB rfl
 obtain ⟨rfl,rfl⟩:=hf.nil rfl
 have qA:=Rn.isN_ne (hf.naA rfl)
 have lA:=Rn.isN_len (hf.naA rfl)
 have zA:(bs A).size≤12:=by rw [bsz];exact Rn.isN_len (hf.naA rfl)
 have zk:(bs (Rn.tabs k)).size≤1500000:=by rw [bsz,Rn.tabs,List.length_replicate];omega
 have hE6:=hf.few
 have HEl:=hide hE
 have HTt:=hide hT
 have HXs:=hide hf.xs
 have HPr:=hide hf.prt
 have HCf:=hide (Rn.com_few hf)
 have HE1:Hid (E.length=1):=hf.one (by decide)
 have e0:(bs []).toList=[]:=bs0
 clear hE hB hL hf ob ol hT
 have ET:Hid (Rn.st1 n k (Sx.tS 2 at' A [] T N E [] [])=(Rn.tabs k++[115,101,116]++([32]++A)++[32,61]++Rn.el false (E.map (Rn.xt n 0)))++[59,10]):=by
  have hne:(E.map (Rn.xt n 0)).isEmpty=false:=by cases E with
   |nil=>cases HE1.out
   |cons a r=>rfl
  show _=_
  unfold Rn.el
  rw [hne]
  simp [Rn.st1,Rn.ahead,Rn.hasS,Sx.sH,Sx.sE,Sx.sB,Sx.sO,Sx.tS,Rn.com]
 generalize Rn.st1 n k (Sx.tS 2 at' A [] T N E [] [])=Z at *
 go_enter Tryz.func69,Tryz.ntmps69
 go_wp2_with fail
 go_loopw [6,7] (fun ov iv wr=> ∃ i:Nat,i≤E.length∧iv= .int .i64 i∧ov= .string (bs (Rn.tabs k++[115,101,116]++([32]++A)++[32,61]++Rn.el false ((E.map (Rn.xt n 0)).take i)))∧Hid (Kp [] w wr)∧wr.cell? ⟨w.heap.size,0,none⟩=some (.int .i64 2)∧wr.cell? ⟨w.heap.size,6,none⟩=some (.slice aE E.length cE)∧wr.cell? ⟨w.heap.size,7,none⟩=some (.slice aB 0 cB)∧wr.cell? ⟨w.heap.size,8,none⟩=some (.slice aL 0 cL)) (fun _ iv _=>E.length - (intOf iv).toNat)
 case atStart=>exact ⟨0,Nat.zero_le _,rfl,by first|rfl|(congr 1;apply ByteArray.ext;simp [bs,Rn.el,Rn.com];done),((Kp.refl _ _).alloc _).alloc _,by simp [go_sem],by simp [go_sem],by simp [go_sem],by simp [go_sem]⟩
 case round=>
  obtain ⟨i,hi,rfl,rfl,HK,u0,u6,u7,u8⟩:=hrel
  have hel:=Rn.el_len false ((E.map (Rn.xt n 0)).take i)
  have hcf:=HCf.out i
  have zO:(bs (Rn.tabs k++[115,101,116]++([32]++A)++[32,61]++Rn.el false ((E.map (Rn.xt n 0)).take i))).size≤3000000:=by
   rw [bsz]
   simp only [List.length_append,Rn.tabs,List.length_replicate,List.length_cons,List.length_nil]
   omega
  clear hel hcf
  by_cases hlt:i<E.length
  ·have d1:decide ((i:Int)<(E.length:Int))=true:=by simp;omega
   cases n with
   |zero=>cases HEl.out
   |succ n=>
    obtain ⟨b,off,op1,nm1,z1,L1,aL1,cL1,rfl,-,hd1,m0,m1,m2,m3,hL1⟩:=(HEl.out.keep HK.out (by simp)).nth i hlt
    have f1:=HXs.out i _ hd1
    have p1:=HPr.out i _ hd1
    have HX:=hide (exprText_any n wr P op1 z1 nm1 L1 aL1 cL1 0 (HTt.out.kp HK.out) hL1 f1 (by omega) (by omega))
    change Hid (Calls _ _ #[_,.int .i64 0] _ _) at HX
    have hm:(E.map (Rn.xt (n+1) 0))[i]? =some (Rn.xt (n+1) 0 (Sx.tE op1 nm1 z1 L1)):=by rw [List.getElem?_map,hd1];rfl
    have e1:=Rn.el_take (sp:=false) hm
    generalize hO:(Rn.tabs k++[115,101,116]++([32]++A)++[32,61]++Rn.el false ((E.map (Rn.xt (n+1) 0)).take i))=O at *
    have E1:Hid (Rn.tabs k++[115,101,116]++([32]++A)++[32,61]++Rn.el false ((E.map (Rn.xt (n+1) 0)).take (i+1))=O++((if i=0 then [] else [44])++(if i=0∧false=true then [] else [32])++Rn.xt (n+1) 0 (Sx.tE op1 nm1 z1 L1))):=hide (by rw [e1,←hO];simp only [List.append_assoc])
    clear e1 hO
    have hxl:=Rn.xt_len (n+1) 0 _ f1
    have zX:(bs (Rn.xt (n+1) 0 (Sx.tE op1 nm1 z1 L1))).size≤600:=by rw [bsz];omega
    have hk0:(0:Int)≤(i:Int):=by omega
    have hk1:(i:Int)<(E.length:Int):=by omega
    clear hd1 hL1 f1 p1 hm hxl
    generalize Rn.xt (n+1) 0 (Sx.tE op1 nm1 z1 L1)=X1 at *
    obtain rfl:i=0:=by have:=HE1.out;omega
    rw [Nat.zero_mul,Nat.add_zero] at m0 m1 m2 m3
    go_wp2_with fail
    refine HX.out.mono ?_
    rintro e w3 ⟨rfl,hk3⟩
    have K3:=hide (HK.out.trans hk3)
    have v0:=hk3.some u0 (by simp)
    have v6:=hk3.some u6 (by simp)
    have v7:=hk3.some u7 (by simp)
    have v8:=hk3.some u8 (by simp)
    clear hk3
    go_wp2
    go_roundw
    case rel=>exact ⟨1,by omega,by go_num,by rw [E1.out];first|(congr 1;done)|(congr 1;apply ByteArray.ext;simp [bs];done),K3.out,v0,v6,v7,v8⟩
    case measure=>first|(simp [intOf];done)|(simp [intOf];omega)
  ·obtain rfl:i=E.length:=by omega
   have d1:decide ((E.length:Int)<(E.length:Int))=false:=by simp
   rw [List.take_of_length_le (by simp)] at zO ⊢
   generalize (Rn.tabs k++[115,101,116]++([32]++A)++[32,61]++Rn.el false (E.map (Rn.xt n 0)))=Y at *
   go_wp2
   go_ret
   exact ⟨by rw [ET.out,←bs_append];rfl,HK.out⟩
end Go.Proofs.YthcapfojofahkaaGreatDoor
namespace Go.Proofs.YthcapfojofahkaaGreatDoor
open Go.RowKit
set_option linter.unusedSimpArgs false in
set_option maxRecDepth 100000 in
set_option maxHeartbeats 2000000 in
theorem stmtText_3 (n:Nat):STt n 3:=by
 intro w P at' A B T N E body els aE aB aL cE cB cL k hT hE hB hL hf ob ol hk hwb hwl
 obtain rfl:A=[]:=hf.nilA rfl
 obtain rfl:B=[]:=hf.nilB rfl
 obtain ⟨rfl,rfl⟩:=hf.nil rfl
 have zk:(bs (Rn.tabs k)).size≤1500000:=by rw [bsz,Rn.tabs,List.length_replicate];omega
 have hE6:=hf.few
 have HEl:=hide hE
 have HTt:=hide hT
 have HXs:=hide hf.xs
 have HPr:=hide hf.prt
 have HCf:=hide (Rn.com_few hf)
 have HE1:Hid (E.length=1):=hf.one (by decide)
 have e0:(bs []).toList=[]:=bs0
 clear hE hB hL hf ob ol hT
 have ET:Hid (Rn.st1 n k (Sx.tS 3 at' [] [] T N E [] [])=(Rn.tabs k++[101,109,105,116]++Rn.el false (E.map (Rn.xt n 0)))++[59,10]):=by
  have hne:(E.map (Rn.xt n 0)).isEmpty=false:=by cases E with
   |nil=>cases HE1.out
   |cons a r=>rfl
  show _=_
  unfold Rn.el
  rw [hne]
  simp [Rn.st1,Rn.ahead,Rn.hasS,Sx.sH,Sx.sE,Sx.sB,Sx.sO,Sx.tS,Rn.com]
 generalize Rn.st1 n k (Sx.tS 3 at' [] [] T N E [] [])=Z at *
 go_enter Tryz.func69,Tryz.ntmps69
 go_wp2_with fail
 go_loopw [6,7] (fun ov iv wr=> ∃ i:Nat,i≤E.length∧iv= .int .i64 i∧ov= .string (bs (Rn.tabs k++[101,109,105,116]++Rn.el false ((E.map (Rn.xt n 0)).take i)))∧Hid (Kp [] w wr)∧wr.cell? ⟨w.heap.size,0,none⟩=some (.int .i64 3)∧wr.cell? ⟨w.heap.size,6,none⟩=some (.slice aE E.length cE)∧wr.cell? ⟨w.heap.size,7,none⟩=some (.slice aB 0 cB)∧wr.cell? ⟨w.heap.size,8,none⟩=some (.slice aL 0 cL)) (fun _ iv _=>E.length - (intOf iv).toNat)
 case atStart=>exact ⟨0,Nat.zero_le _,rfl,by first|rfl|(congr 1;apply ByteArray.ext;simp [bs,Rn.el,Rn.com];done),((Kp.refl _ _).alloc _).alloc _,by simp [go_sem],by simp [go_sem],by simp [go_sem],by simp [go_sem]⟩
 case round=>
  obtain ⟨i,hi,rfl,rfl,HK,u0,u6,u7,u8⟩:=hrel
  have hel:=Rn.el_len false ((E.map (Rn.xt n 0)).take i)
  have hcf:=HCf.out i
  have zO:(bs (Rn.tabs k++[101,109,105,116]++Rn.el false ((E.map (Rn.xt n 0)).take i))).size≤3000000:=by
   rw [bsz]
   simp only [List.length_append,Rn.tabs,List.length_replicate,List.length_cons,List.length_nil]
   omega
  clear hel hcf
  by_cases hlt:i<E.length
  ·have d1:decide ((i:Int)<(E.length:Int))=true:=by simp;omega
   cases n with
   |zero=>cases HEl.out
   |succ n=>
    obtain ⟨b,off,op1,nm1,z1,L1,aL1,cL1,rfl,-,hd1,m0,m1,m2,m3,hL1⟩:=(HEl.out.keep HK.out (by simp)).nth i hlt
    have f1:=HXs.out i _ hd1
    have p1:=HPr.out i _ hd1
    have HX:=hide (exprText_any n wr P op1 z1 nm1 L1 aL1 cL1 0 (HTt.out.kp HK.out) hL1 f1 (by omega) (by omega))
    change Hid (Calls _ _ #[_,.int .i64 0] _ _) at HX
    have hm:(E.map (Rn.xt (n+1) 0))[i]? =some (Rn.xt (n+1) 0 (Sx.tE op1 nm1 z1 L1)):=by rw [List.getElem?_map,hd1];rfl
    have e1:=Rn.el_take (sp:=false) hm
    generalize hO:(Rn.tabs k++[101,109,105,116]++Rn.el false ((E.map (Rn.xt (n+1) 0)).take i))=O at *
    have E1:Hid (Rn.tabs k++[101,109,105,116]++Rn.el false ((E.map (Rn.xt (n+1) 0)).take (i+1))=O++((if i=0 then [] else [44])++(if i=0∧false=true then [] else [32])++Rn.xt (n+1) 0 (Sx.tE op1 nm1 z1 L1))):=hide (by rw [e1,←hO];simp only [List.append_assoc])
    clear e1 hO
    have hxl:=Rn.xt_len (n+1) 0 _ f1
    have zX:(bs (Rn.xt (n+1) 0 (Sx.tE op1 nm1 z1 L1))).size≤600:=by rw [bsz];omega
    have hk0:(0:Int)≤(i:Int):=by omega
    have hk1:(i:Int)<(E.length:Int):=by omega
    clear hd1 hL1 f1 p1 hm hxl
    generalize Rn.xt (n+1) 0 (Sx.tE op1 nm1 z1 L1)=X1 at *
    obtain rfl:i=0:=by have:=HE1.out;omega
    rw [Nat.zero_mul,Nat.add_zero] at m0 m1 m2 m3
    go_wp2_with fail
    refine HX.out.mono ?_
    rintro e w3 ⟨rfl,hk3⟩
    have K3:=hide (HK.out.trans hk3)
    have v0:=hk3.some u0 (by simp)
    have v6:=hk3.some u6 (by simp)
    have v7:=hk3.some u7 (by simp)
    have v8:=hk3.some u8 (by simp)
    clear hk3
    go_wp2
    go_roundw
    case rel=>exact ⟨1,by omega,by go_num,by rw [E1.out];first|(congr 1;done)|(congr 1;apply ByteArray.ext;simp [bs];done),K3.out,v0,v6,v7,v8⟩
    case measure=>first|(simp [intOf];done)|(simp [intOf];omega)
  ·obtain rfl:i=E.length:=by omega
   have d1:decide ((E.length:Int)<(E.length:Int))=false:=by simp
   rw [List.take_of_length_le (by simp)] at zO ⊢
   generalize (Rn.tabs k++[101,109,105,116]++Rn.el false (E.map (Rn.xt n 0)))=Y at *
   go_wp2
   go_ret
   exact ⟨by rw [ET.out,←bs_append];rfl,HK.out⟩
end Go.Proofs.YthcapfojofahkaaGreatDoor
namespace Go.Proofs.YthcapfojofahkaaGreatDoor
open Go.RowKit
set_option linter.unusedSimpArgs false in
set_option maxRecDepth 100000 in
set_option maxHeartbeats 2000000 in
theorem stmtText_4 (n:Nat):STt n 4:=by
 intro w P at' A B T N E body els aE aB aL cE cB cL k hT hE hB hL hf ob ol hk hwb hwl
 obtain ⟨rfl,rfl⟩:=hf.nil rfl
 obtain rfl:E=[]:=List.length_eq_zero_iff.1 (hf.one (by decide))
 have qA:=Rn.isN_ne (hf.naA rfl)
 have lA:=Rn.isN_len (hf.naA rfl)
 have zA:(bs A).size≤12:=by rw [bsz];exact Rn.isN_len (hf.naA rfl)
 have qB:=Rn.isN_ne (hf.naB rfl)
 have lB:=Rn.isN_len (hf.naB rfl)
 have zB:(bs B).size≤12:=by rw [bsz];exact Rn.isN_len (hf.naB rfl)
 have zT:(bs (Rn.tyw T)).size≤20:=by rw [bsz];have:=Rn.tyw_len T;have:=hf.tl;omega
 have zN:(bs (Rn.digs N)).size≤21:=by rw [bsz];exact Rn.digs_len hf.n0 hf.n1
 have HKt:=hide (fun W=>kindText_any T W (hf.tT rfl) hf.tl)
 have HIt:=hide (fun W (hk:Kp [] w W)=>itoa_any N W (by have:=hf.n0;omega) (by have:=hf.n1;omega) (hT.kp hk))
 change Hid (∀ W,_→Calls _ _ _ _ fun e w'=>e= .returned (.string (bs (Rn.digs N)))∧_) at HIt
 have zk:(bs (Rn.tabs k)).size≤1500000:=by rw [bsz,Rn.tabs,List.length_replicate];omega
 have e0:(bs []).toList=[]:=bs0
 clear hE hB hL hf ob ol hT
 have ET:Hid (Rn.st1 n k (Sx.tS 4 at' A B T N [] [] [])=(Rn.tabs k++[99,104,97,110]++([32]++A)++([32]++B)++([32]++Rn.tyw T++[32]++Rn.digs N))++[59,10]):=by
  show _=_
  simp [Rn.st1,Rn.ahead,Rn.hasS,Sx.sH,Sx.sE,Sx.sB,Sx.sO,Sx.tS,Rn.com]
 generalize Rn.st1 n k (Sx.tS 4 at' A B T N [] [] [])=Z at *
 go_enter Tryz.func69,Tryz.ntmps69
 go_wp2_with fail
 generalize hW:(w.alloc _).alloc _=W
 have KW:Hid (Kp [] w W):=hide (by rw [←hW];exact ((Kp.refl _ _).alloc _).alloc _)
 have c0:W.cell? ⟨w.heap.size,0,none⟩=some (.int .i64 4):=by rw [←hW];simp [go_sem]
 have c4:W.cell? ⟨w.heap.size,4,none⟩=some (.string (bs T)):=by rw [←hW];simp [go_sem]
 have c5:W.cell? ⟨w.heap.size,5,none⟩=some (.int .i64 N):=by rw [←hW];simp [go_sem]
 have c6:W.cell? ⟨w.heap.size,6,none⟩=some (.slice aE 0 cE):=by rw [←hW];simp [go_sem]
 clear hW
 go_region_held_law (fun w'=>w'.cell? ⟨w.heap.size,4,none⟩=some (.string (bs T))∧w'.cell? ⟨w.heap.size,5,none⟩=some (.int .i64 N)) ((first|exact ⟨by assumption,by assumption⟩|exact ⟨c4,c5⟩|go_keep))
  ((first
    |(go_at_call 47;refine (HKt.out _).mono ?_;rintro e w2 ⟨rfl,rfl⟩)
    |(go_at_call 96;refine (HIt.out _ (KW.out.drew)).mono ?_;rintro e w3 ⟨rfl,hk3⟩;have g4:w3.cell? ⟨w.heap.size,4,none⟩=some (.string (bs T)):=hk3.some c4 (by simp);have g5:w3.cell? ⟨w.heap.size,5,none⟩=some (.int .i64 N):=hk3.some c5 (by simp);have g0:w3.cell? ⟨w.heap.size,0,none⟩=some (.int .i64 4):=hk3.some c0 (by simp);have g6:w3.cell? ⟨w.heap.size,6,none⟩=some (.slice aE 0 cE):=hk3.some c6 (by simp);have K3:Hid (Kp [] w w3):=hide (KW.out.drew.trans hk3);clear hk3)))
 all_goals
  go_wp2_with fail
  go_loopw [6,7] (fun ov iv wr=>iv= .int .i64 0∧ov= .string (bs (Rn.tabs k++[99,104,97,110]++([32]++A)++([32]++B)++([32]++Rn.tyw T++[32]++Rn.digs N)))∧Hid (Kp [] w wr)∧wr.cell? ⟨w.heap.size,0,none⟩=some (.int .i64 4)∧wr.cell? ⟨w.heap.size,6,none⟩=some (.slice aE 0 cE)) (fun _ _ _=>0)
  case atStart=>exact ⟨rfl,by first|rfl|(congr 1;apply ByteArray.ext;simp [bs,Rn.el,Rn.com];done),K3.out,g0,g6⟩
  case round=>
   obtain ⟨rfl,rfl,HK,u0,u6⟩:=hrel
   have zO:(bs (Rn.tabs k++[99,104,97,110]++([32]++A)++([32]++B)++([32]++Rn.tyw T++[32]++Rn.digs N))).size≤3000000:=by
    rw [bsz]
    simp only [List.length_append,Rn.tabs,List.length_replicate,List.length_cons,List.length_nil]
    rw [bsz] at zT zN
    omega
   generalize (Rn.tabs k++[99,104,97,110]++([32]++A)++([32]++B)++([32]++Rn.tyw T++[32]++Rn.digs N))=Y at *
   go_wp2
   go_ret
   exact ⟨by rw [ET.out,←bs_append];rfl,HK.out⟩
end Go.Proofs.YthcapfojofahkaaGreatDoor
