import Derived.Test.YteeocekjekclbaaGreatDoorMbq
import Derived.Test.YteeocekjekclbaaGreatDoorMae
import Derived.Test.YteeocekjekclbaaGreatDoorMau
import Derived.Test.YteeocekjekclbaaGreatDoorMbk
import Derived.Test.YteeocekjekclbaaGreatDoorMbb
import Derived.Test.YteeocekjekclbaaGreatDoorMbc
import Derived.Test.YteeocekjekclbaaGreatDoorMbv
namespace Go.Proofs.YteeocekjekclbaaGreatDoor
open Go.RowKit
namespace Bg
def okE:Nat→List Sx.Tr→Bool
 |0,_=>false
 |n+1,l=>l.all fun d=>okE n (Sx.eL d)
def okS:Nat→List Sx.Tr→Bool
 |0,_=>false
 |n+1,l=>l.all fun d=>okE n (Sx.sE d) && okS n (Sx.sB d) && okS n (Sx.sO d)
def okG (n:Nat) (l:List Sx.Tr):Bool:=l.all fun g=>okS n (Sx.gB g)
end Bg
theorem Rw.mem {R R':Sx.Tr→List Value→Prop} {l:List Sx.Tr} {cs:List Value} (h:Rw R l cs) (hR: ∀ d c,d ∈ l→R d c→R' d c):Rw R' l cs:=by
 induction l generalizing cs with
 |nil=>exact h
 |cons d r ih=>
  obtain ⟨c1,c2,h1,h2,h3⟩:=h
  exact ⟨c1,c2,h1,hR _ _ (by simp) h2,ih h3 (fun d c hd=>hR d c (by simp [hd]))⟩
theorem Sl.mem {R R':Sx.Tr→List Value→Prop} {w:World} {P:Nat→Prop} {l:List Sx.Tr} {v:Value} (h:Sl R w P l v) (hR: ∀ d c,d ∈ l→R d c→R' d c):Sl R' w P l v:=by
 obtain ⟨a,cap,hv,h⟩:=h
 refine ⟨a,cap,hv,h.imp id ?_⟩
 rintro ⟨b,off,cs,ha,hb,hr,hc⟩
 exact ⟨b,off,cs,ha,hb,hr.mem hR,hc⟩
theorem EL.level {w:World} {P:Nat→Prop}: ∀ (n:Nat) {m:Nat} {l:List Sx.Tr} {v:Value},EL w P m l v→Bg.okE n l=true→EL w P n l v
 |0,_,_,_,_,hk=>by cases hk
 |n+1,0,_,_,h,_=>by cases h
 |n+1,m+1,l,v,h,hk=>by
  obtain ⟨a,cap,hv,h⟩:=h
  refine ⟨a,cap,hv,h.imp id ?_⟩
  rintro ⟨b,off,ha,hb,hc⟩
  refine ⟨b,off,ha,hb,fun i d hd=> ?_⟩
  obtain ⟨op,nm,k,L,u,h1,h2,h3,h4,h5,h6⟩:=hc i d hd
  refine ⟨op,nm,k,L,u,h1,h2,h3,h4,h5,EL.level n h6 ?_⟩
  have:=List.all_eq_true.1 hk d (List.mem_of_getElem? hd)
  rw [h1] at this
  exact this
theorem SL.level {w:World} {P:Nat→Prop}: ∀ (n:Nat) {m:Nat} {l:List Sx.Tr} {v:Value},SL w P m l v→Bg.okS n l=true→SL w P n l v
 |0,_,_,_,_,hk=>by cases hk
 |n+1,0,_,_,h,_=>by cases h
 |n+1,m+1,l,v,h,hk=>by
  rw [SL_succ] at h ⊢
  refine h.mem ?_
  rintro d c hd ⟨D,at',A,B,T,N,E,body,els,uE,uB,uL,rfl,h2,h3,h4,h5⟩
  have h6:=List.all_eq_true.1 hk _ hd
  rw [Bool.and_eq_true,Bool.and_eq_true] at h6
  exact ⟨D,at',A,B,T,N,E,body,els,uE,uB,uL,rfl,h2,EL.level n h3 h6.1.1,SL.level n h4 h6.1.2,SL.level n h5 h6.2⟩
theorem GL.level {w:World} {P:Nat→Prop} (n:Nat) {m:Nat} {l:List Sx.Tr} {v:Value} (h:Sl (RG w P m) w P l v) (hk:Bg.okG n l=true):Sl (RG w P n) w P l v:=by
 refine h.mem ?_
 rintro d c hd ⟨nm,at',ps,body,uP,uB,rfl,h2,h3,h4⟩
 exact ⟨nm,at',ps,body,uP,uB,rfl,h2,h3,SL.level n h4 (List.all_eq_true.1 hk _ hd)⟩
theorem toks_at {T:List Tk.Tok} (h:(T.all fun t=>decide (t.at'≤12000))=true): ∀ (i:Nat) t,T[i]? =some t→t.at'≤12000:=fun i t hi=>by
 simpa using List.all_eq_true.1 h t (List.mem_of_getElem? hi)
theorem parse_at (K:List Nat) (f n:Nat) (hBl:BlC K f) (s:ByteArray) {l:List Sx.Tr} (hs:s.size≤12000) (h0:(Tk.scan s.data.toList).2.1=0) (hl:(Tk.scan s.data.toList).1.length≤12000) (hat:((Tk.scan s.data.toList).1.all fun t=>decide (t.at'≤12000))=true) (hx:Bg.prog K s.size (Tk.scan s.data.toList).1 f=some l) (hk:Bg.okG n l=true) {w:World} (hw:WTab w):
  Calls Tryz.prog 9 #[.string s] w fun e w'=> ∃ a cap,e= .returned (.tuple #[.agg #[.slice a l.length cap],.agg #[.int .i64 0,.int .i64 0]])∧Sl (RG w' (fun b=>b<w'.heap.size) n) w' (fun b=>b<w'.heap.size) l (.slice a l.length cap)∧Kp [] w w':=by
 refine (parse_ok K f hBl hw hs (pp:=(Tk.scan s.data.toList).2.2) (by rw [←h0]) hl (toks_at hat) hx).mono ?_
 rintro e w' ⟨m,a,cap,rfl,hS,hk'⟩
 refine ⟨a,cap,rfl,?_,hk'⟩
 exact (GL.level n hS hk).base (fun b hb _=>hb) (fun d c h=>⟨h.base (fun b hb _=>hb),by obtain ⟨_,_,_,_,_,_,_,rfl,_⟩:=h;simp⟩)
end Go.Proofs.YteeocekjekclbaaGreatDoor
namespace Go.Proofs.YteeocekjekclbaaGreatDoor
open Go.RowKit
def Lw.named (R:List (List Kn.Nv)):List (List Lw.Vr):=R.map fun x=>x.map fun v=>(bs v.1,bs v.2)
theorem Lw.named_at {R:List (List Kn.Nv)} {k:Nat} {y:List Lw.Vr} (h:(Lw.named R)[k]? =some y): ∃ x,R[k]? =some x∧y=x.map fun v=>(bs v.1,bs v.2):=by
 unfold Lw.named at h
 rw [List.getElem?_map] at h
 cases hx:R[k]? with
 |none=>rw [hx] at h;cases h
 |some x=>rw [hx] at h;cases h;exact ⟨x,rfl,rfl⟩
theorem vcl_named (x:List Kn.Nv):(x.map fun v=>((bs v.1,bs v.2):Lw.Vr)).flatMap Cd.vcl=vcells x:=by
 induction x with
 |nil=>rfl
 |cons v r ih=>
  show Cd.vcl (bs v.1,bs v.2)++(r.map fun v=>((bs v.1,bs v.2):Lw.Vr)).flatMap Cd.vcl=_
  rw [ih]
  rfl
theorem ownsRow_base {w:World} {B B' t z n:Nat} {v:Value} {xs:List Value} (h:w.ownsRow B t z v n xs) (hB:B'≤B):w.ownsRow B' t z v n xs:=
 ⟨h.1,h.2.imp id (fun ⟨g,cap,cur,hv,hb,r⟩=>⟨g,cap,cur,hv,Nat.le_trans hB hb,r⟩)⟩
theorem us_at {AV:List (Option Addr × Nat)} {R:List (List Kn.Nv)} {k:Nat} {x:List Kn.Nv} {a:Option Addr × Nat} (hx:R[k]? =some x) (ha:AV[k]? =some a):(Kc.us AV R)[k]? =some (.slice a.1 x.length a.2):=by
 unfold Kc.us
 rw [List.getElem?_map,(List.getElem?_zip_eq_some (z:=(a,x))).2 ⟨ha,hx⟩]
 rfl
theorem vo_of {w:World} {B g ma:Nat} {av:Option Addr} {cv:Nat} {R:List (List Kn.Nv)} {AV:List (Option Addr × Nat)} (hR:R ≠ []) (h1:w.ownsRow (g+1) 22 1 (.slice av R.length cv) R.length (Kc.us AV R)) (h2:RO B g ma w (.slice av R.length cv) R AV) (hB:B≤g):
  ∃ gv,av=some ⟨gv,0,none⟩∧VO w B gv 0 (Lw.named R) AV:=by
 rcases h1.2 with ⟨hv,h0⟩|⟨gv,cap,cur,hv,hb,_⟩
 ·exact absurd (List.length_eq_zero_iff.1 h0) hR
 obtain ⟨rfl,-⟩:av=some ⟨gv,0,none⟩∧cv=cap:=by simpa using hv
 refine ⟨gv,rfl,by rw [h2.ln];simp [Lw.named],by omega,fun k y a hy ha=> ?_,fun k k2 a a2 hne ha ha2 j hj hj2=> ?_⟩
 ·obtain ⟨x,hx,rfl⟩:=Lw.named_at hy
  obtain ⟨q1,q2⟩:=h2.at' k x a hx ha
  rw [List.length_map,vcl_named]
  refine ⟨?_,ownsRow_base q1 (Nat.zero_le _),fun j hj=> ?_⟩
  ·have:=h1.cells (g:=gv) rfl k _ (us_at hx ha)
   rwa [Addr.add_mid] at this
  ·obtain ⟨q3,-,q5⟩:=q2 j (by rw [ob_own];exact hj)
   exact ⟨q3,fun e=>q5 (by rw [e];rfl)⟩
 ·have l1:k<R.length:=by rw [←h2.ln];exact (List.getElem?_eq_some_iff.1 ha).1
  have l2:k2<R.length:=by rw [←h2.ln];exact (List.getElem?_eq_some_iff.1 ha2).1
  exact h2.ap k k2 _ _ a a2 hne (List.getElem?_eq_getElem l1) (List.getElem?_eq_getElem l2) ha ha2 j (by rw [ob_own];exact hj) (by rw [ob_own];exact hj2)
theorem lower_at (n:Nat) {w:World} (l:List Sx.Tr) (a:Option Addr) (cap:Nat) (hL:Sl (RG w (fun b=>b<w.heap.size) (n+1)) w (fun b=>b<w.heap.size) l (.slice a l.length cap)) (hll:l.length≤1000000) (R:List (List Kn.Nv)) (hR:R ≠ []) (hlo:R.length=l.length) (hx:Kc.vars (n+1) l=some R)
  (hC: ∀ w1,Kp [] w w1→Calls Tryz.prog 31 #[.agg #[.slice a l.length cap]] w1 fun e w2=>e= .returned (.agg #[.int .i64 0,.int .i64 0])∧Kp [] w1 w2) (PR:List Cd.Pr) (hs:Lw.lowerGo n [] l (Lw.named R)=some PR):
  Calls Tryz.prog 10 #[.agg #[.slice a l.length cap]] w fun e w'=> ∃ ap cp,e= .returned (.tuple #[.agg #[.slice ap PR.length cp,.int .i64 (Lw.mainI 0 0 l)],.agg #[.int .i64 0,.int .i64 0]])∧CoR w' (.slice ap PR.length cp) PR∧Below w.heap.size w w':=by
 refine lower_any n (fun b=>b<w.heap.size) (fun _ h=>h) l a cap hL hll (Lw.named R) (by simp [Lw.named,hlo]) (fun w1 hb=> ?_) PR hs
 have k1:Kp [] w w1:=Kp.of_below hb
 refine (kVars_ok (n+1) w1 (fun b=>b<w.heap.size) l a cap (hL.keep k1 (by simp) (fun d c h=>h.keep k1 (by simp))) (fun b hb=>Nat.lt_of_lt_of_le hb k1.size) R hx (fun w2 hk=>hC w2 (k1.trans hk))).mono ?_
 rintro e w' ⟨av,cv,AV,g,ma,rfl,h1,h2,hg,hk⟩
 obtain ⟨gv,rfl,hv⟩:=vo_of hR h1 h2 hg
 exact ⟨_,cv,gv,0,AV,by simp [Lw.named],fun _=>rfl,hv,hk.below⟩
end Go.Proofs.YteeocekjekclbaaGreatDoor
namespace Go.Proofs.YteeocekjekclbaaGreatDoor
open Go.RowKit
def oaT:ByteArray:=⟨#[115,116,97,103,101,32,109,97,105,110,40,105,110,32,114,101,99,118,32,105,110,116,41,32,123,32,99,104,97,110,32,115,32,114,32,105,110,116,32,49,59,32,105,102,32,49,32,123,32,99,108,111,115,101,32,115,59,32,125,32,99,108,111,115,101,32,115,59,32,100,114,97,105,110,32,114,59,32,100,114,97,105,110,32,105,110,59,32,125]⟩
def oaL:List Sx.Tr:=[Sx.tG [109,97,105,110] 0 [Sx.tP [105,110] [114,105]] [
 Sx.tS 4 26 [115] [114] [105] 1 [] [] [],Sx.tS 14 42 [] [] [] 0 [Sx.tE 1 [] 1 []] [Sx.tS 7 49 [115] [] [] 0 [] [] []] [],Sx.tS 7 60 [115] [] [] 0 [] [] [],Sx.tS 9 69 [114] [] [] 0 [] [] [],Sx.tS 9 78 [105,110] [] [] 0 [] [] []]]
def oaR:List (List Kn.Nv):=[[([105,110],[114,105]),([115],[115,105]),([114],[114,105])]]
theorem oa_scan:(Tk.scan oaT.data.toList).2.1=0:=by kernel_rfl
theorem oa_len:decide ((Tk.scan oaT.data.toList).1.length≤12000)=true:=by kernel_rfl
theorem oa_at:((Tk.scan oaT.data.toList).1.all fun t=>decide (t.at'≤12000))=true:=by kernel_rfl
theorem oa_read:Bg.prog [4,7,9,14] oaT.size (Tk.scan oaT.data.toList).1 5=some oaL:=by kernel_rfl
theorem oa_ok:Bg.okG 8 oaL=true:=by kernel_rfl
theorem oa_vars:Kc.vars 8 oaL=some oaR:=by kernel_rfl
theorem oa_told:Rn.told 8 oaL=(0,0):=by kernel_rfl
def oaPR:List Cd.Pr:=(Lw.lowerGo 7 [] oaL (Lw.named oaR)).getD []
theorem oa_low:(Lw.lowerGo 7 [] oaL (Lw.named oaR)).isSome=true:=by kernel_rfl
theorem oa_one:oaPR.length=1:=by kernel_rfl
end Go.Proofs.YteeocekjekclbaaGreatDoor
namespace Go.Proofs.YteeocekjekclbaaGreatDoor
open Go.RowKit
theorem oa_some:Lw.lowerGo 7 [] oaL (Lw.named oaR)=some oaPR:=by
 have h:=oa_low
 unfold oaPR
 cases hx:Lw.lowerGo 7 [] oaL (Lw.named oaR) with
 |none=>rw [hx] at h;cases h
 |some y=>rfl
theorem oa_blocks:BlC [4,7,9,14] 5:=blocks_ok _ (fun f D hD hB=>by
 simp only [List.mem_cons,List.mem_nil_iff,or_false] at hD
 rcases hD with rfl|rfl|rfl|rfl
 ·exact ⟨by decide,fun _=>plain_4,fun h=>by omega⟩
 ·exact ⟨by decide,fun _=>plain_7 7 (.inl rfl),fun h=>by omega⟩
 ·exact ⟨by decide,fun _=>plain_7 9 (.inr rfl),fun h=>by omega⟩
 ·exact ⟨by decide,fun h=>by omega,fun _=>⟨by decide,nest_e _ f 14 (.inr rfl) hB⟩⟩) 5
def oaP:Cd.Pr:=oaPR.headD ⟨⟨#[]⟩,[],0,[],[]⟩
theorem oa_is:oaPR=[oaP]:=by
 have h:=oa_one
 unfold oaP
 match oaPR,h with
 |[x],_=>rfl
def NotesOk:Prop:= ∀ (q:PV) (w:World),PC q oaP w→Calls Tryz.prog 11 #[.agg #[.string oaP.name,.slice q.av oaP.vars.length q.cv,.int .i64 oaP.params,.slice q.ab oaP.blocks.length q.cb,.slice q.ai oaP.ins.length q.ci]] w fun e w'=> ∃ g c,e= .returned (.slice (some ⟨g,0,none⟩) 1 c)∧w'.cell? ⟨g,0,none⟩=some (.int .i64 2)∧w'.cell? ⟨g,1,none⟩=some (.int .i64 4)∧w'.cell? ⟨g,2,none⟩=some (.int .i64 1)∧Below w.heap.size w w'
def CheckOk:Prop:= ∀ (w:World) (a:Option Addr) (cap:Nat),Tb w→Sl (RG w (fun b=>b<w.heap.size) 8) w (fun b=>b<w.heap.size) oaL (.slice a oaL.length cap)→Calls Tryz.prog 31 #[.agg #[.slice a oaL.length cap]] w fun e w2=>e= .returned (.agg #[.int .i64 0,.int .i64 0])∧Kp [] w w2
set_option maxRecDepth 100000 in
set_option maxHeartbeats 2000000 in
theorem obegun_of (hN:NotesOk) (hC:CheckOk) (w:World) (hT:Tb w):Calls Tryz.prog 4 #[] w fun e w'=>e= .returned (.bool true)∧Below w.heap.size w w':=by
 have CP:=hide (fun (w:World) (h:Tb w)=>parse_at [4,7,9,14] 5 8 oa_blocks oaT (by decide) oa_scan (of_decide_eq_true oa_len) oa_at oa_read oa_ok h.words)
 have CL:=hide (fun (w:World) (h:Tb w) (a:Option Addr) (cap:Nat) (hL:Sl (RG w (fun b=>b<w.heap.size) 8) w (fun b=>b<w.heap.size) oaL (.slice a oaL.length cap))=>lower_at 7 oaL a cap hL (by decide) oaR (by decide) rfl oa_vars (fun w1 hk=>hC w1 a cap (h.kp hk) ((hL.keep hk (by simp) (fun d c h=>h.keep hk (by simp))).base (fun b _ hb=>Nat.lt_of_lt_of_le hb hk.size) (fun d c h=>⟨h.base (fun b _ hb=>Nat.lt_of_lt_of_le hb hk.size),by obtain ⟨_,_,_,_,_,_,_,rfl,_⟩:=h;simp⟩))) oaPR oa_some)
 have CN:=hide hN
 have HT:=hide hT
 rw [oa_is] at CL
 clear hN hC hT
 go_enter Tryz.func4,Tryz.ntmps4
 go_wp2_with fail
 refine (CP.out _ HT.out).mono ?_
 rintro e w1 ⟨a,cap,rfl,hSl,hk⟩
 have K1:Hid (Kp [] w w1):=hide hk
 have HS1:=hide hSl
 clear hSl hk
 have K2:Hid (Kp [] w1 ((w1.alloc (.cells #[.slice a oaL.length cap] 34)).alloc (.cells #[.int .i64 0,.int .i64 0] 36))):=hide (((Kp.refl _ _).alloc _).alloc _)
 have HS2:Hid (Sl (RG ((w1.alloc (.cells #[.slice a oaL.length cap] 34)).alloc (.cells #[.int .i64 0,.int .i64 0] 36)) (fun b=>b<((w1.alloc (.cells #[.slice a oaL.length cap] 34)).alloc (.cells #[.int .i64 0,.int .i64 0] 36)).heap.size) 8) ((w1.alloc (.cells #[.slice a oaL.length cap] 34)).alloc (.cells #[.int .i64 0,.int .i64 0] 36)) (fun b=>b<((w1.alloc (.cells #[.slice a oaL.length cap] 34)).alloc (.cells #[.int .i64 0,.int .i64 0] 36)).heap.size) oaL (.slice a oaL.length cap)):=
  hide ((HS1.out.keep K2.out (by simp) (fun d c h=>h.keep K2.out (by simp))).base (fun b _ hb=>Nat.lt_of_lt_of_le hb K2.out.size) (fun d c h=>⟨h.base (fun b _ hb=>Nat.lt_of_lt_of_le hb K2.out.size),by obtain ⟨_,_,_,_,_,_,_,rfl,_⟩:=h;simp⟩))
 go_wp2_with fail
 refine (CL.out _ ((HT.out.kp K1.out).kp K2.out) a cap HS2.out).mono ?_
 rintro e w2 ⟨ap,cp,rfl,hco,hb2⟩
 obtain ⟨a2,c2,e2,h2⟩:=hco
 obtain ⟨rfl,-⟩:ap=a2∧cp=c2:=by simpa using e2
 obtain ⟨g,o,rfl,h3⟩:=h2 (by simp)
 obtain ⟨q,h4,hpc⟩:=h3 0 oaP rfl
 rw [Nat.zero_mul,Nat.add_zero] at h4
 have x0:w2.cell? ⟨g,o,none⟩=some (.string oaP.name):=h4 0 _ rfl
 have x1:=h4 1 _ rfl
 have x2:=h4 2 _ rfl
 have x3:=h4 3 _ rfl
 have x4:=h4 4 _ rfl
 have HPC:=hide hpc
 have B2:Hid (Below w.heap.size w w2):=hide ((K1.out.trans K2.out).below.trans (hb2.mono (by have:=K1.out.size;simp;omega)))
 have hml:Lw.mainI 0 0 oaL=0:=by kernel_rfl
 rw [hml]
 clear hpc h2 h3 h4 e2 hb2 HS1 HS2
 have B3:Hid (Below w.heap.size w ((w2.alloc (.cells #[.slice (some ⟨g,o,none⟩) 1 cp,.int .i64 0] 41)).alloc (.cells #[.int .i64 0,.int .i64 0] 36))):=hide ((B2.out.alloc (by have:=B2.out.size;omega) _).alloc (by have:=B2.out.size;simp;omega) _)
 have P3:=hide (HPC.out.keep (w':=(w2.alloc (.cells #[.slice (some ⟨g,o,none⟩) 1 cp,.int .i64 0] 41)).alloc (.cells #[.int .i64 0,.int .i64 0] 36)) (((Below.refl _ _).alloc (Nat.le_refl _) _).alloc (by simp) _))
 have hb3:Below w2.heap.size w2 ((w2.alloc (.cells #[.slice (some ⟨g,o,none⟩) 1 cp,.int .i64 0] 41)).alloc (.cells #[.int .i64 0,.int .i64 0] 36)):=((Below.refl _ _).alloc (Nat.le_refl _) _).alloc (by simp) _
 have hgl:=World.block_lt_of_cell? _ _ x0
 simp only at hgl
 have hg1: ¬ g=w2.heap.size:=by omega
 have hg2: ¬ g=w2.heap.size+1:=by omega
 have y0:=bsome hb3 x0
 have y1:=bsome hb3 x1
 have y2:=bsome hb3 x2
 have y3:=bsome hb3 x3
 have y4:=bsome hb3 x4
 clear hb3
 go_wp2_with fail
 refine (CN.out q _ P3.out).mono ?_
 rintro e w4 ⟨gn,cn,rfl,n0,n1,n2,hb4⟩
 have B4:=hide (B3.out.trans (hb4.mono B3.out.size))
 clear hb4
 go_wp2
 go_ret
 exact ⟨rfl,B4.out⟩
end Go.Proofs.YteeocekjekclbaaGreatDoor
namespace Go.Proofs.YteeocekjekclbaaGreatDoor
open Go.RowKit
structure FB (w:World) (v:Value) (wr:World):Prop where
 kp:Kp [] w wr
 bx:wr.cell? ⟨w.heap.size,0,none⟩=some v
 r0:wr.cell? ⟨w.heap.size+1,0,none⟩=some (.int .i64 0)
 r1:wr.cell? ⟨w.heap.size+1,1,none⟩=some (.int .i64 0)
 f0:wr.frozen? ⟨w.heap.size+1,0,none⟩=false
 f1:wr.frozen? ⟨w.heap.size+1,1,none⟩=false
theorem FB.go {w wr w':World} {v:Value} (h:FB w v wr) (hk:Kp [] wr w'):FB w v w':=
 ⟨h.kp.trans hk,hk.some h.bx (by simp),hk.some h.r0 (by simp),hk.some h.r1 (by simp),(hk.frozen (p:=⟨w.heap.size+1,0,none⟩) (World.block_lt_of_cell? _ _ h.r0) (by simp)).trans h.f0,(hk.frozen (p:=⟨w.heap.size+1,1,none⟩) (World.block_lt_of_cell? _ _ h.r1) (by simp)).trans h.f1⟩
end Go.Proofs.YteeocekjekclbaaGreatDoor
namespace Go.Proofs.YteeocekjekclbaaGreatDoor
open Go.RowKit
set_option maxRecDepth 100000 in
set_option maxHeartbeats 1000000 in
theorem rcheck_any (n:Nat) (w:World) (P:Nat→Prop) (l:List Sx.Tr) (a:Option Addr) (c:Nat) (hT:Tb w) (h:Sl (RG w P n) w P l (.slice a l.length c)) (hN:Nm n l):
  Calls Tryz.prog 31 #[.agg #[.slice a l.length c]] w fun e w'=>e= .returned (.agg #[.int .i64 (Rn.told n l).1,.int .i64 (Rn.told n l).2])∧Kp [] w w':=by
 have K2:Hid (Kp [] w ((w.alloc (.cells #[.slice a l.length c] 34)).alloc (.cells #[.int .i64 0,.int .i64 0] 36))):=hide (((Kp.refl _ _).alloc _).alloc _)
 have HC:=hide (print_any n _ P l a c (hT.kp K2.out) (h.keep K2.out (by simp) (fun d c h=>h.keep K2.out (by simp))) hN)
 have B2:Hid (FB w (.slice a l.length c) ((w.alloc (.cells #[.slice a l.length c] 34)).alloc (.cells #[.int .i64 0,.int .i64 0] 36))):=hide ⟨K2.out,by simp [go_sem],by simp [go_sem],by simp [go_sem],by simp [go_sem],by simp [go_sem]⟩
 clear h hT hN K2
 generalize Rn.told n l=F at *
 go_enter Tryz.func31,Tryz.ntmps31
 go_wp2_with fail
 refine HC.out.mono ?_
 rintro e w3 ⟨rfl,hk3⟩
 obtain ⟨k5,-,r0,r1,f0,f1⟩:=B2.out.go hk3
 have hb4:=World.block_lt_of_cell? _ _ r0
 clear hk3 HC
 go_wp2
 refine bodyPost_ret (v:= .agg #[.int .i64 F.1,.int .i64 F.2]) (by simp [results,Tryz.results31,go_sem,r0,r1,hb4]) rfl ⟨rfl,?_⟩
 exact ((k5.nb (by omega) _ _).nb (by omega) _ _).alloc _
end Go.Proofs.YteeocekjekclbaaGreatDoor
namespace Go.Proofs.YteeocekjekclbaaGreatDoor
open Go.RowKit
namespace Bg
def nE:Nat→Sx.Tr→Bool
 |0,_=>true
 |n+1,d=>decide ((Sx.eH d).2.1.length≤1000) && (Sx.eL d).all fun x=>nE n x
def nS:Nat→List Sx.Tr→Bool
 |0,_=>true
 |n+1,l=>l.all fun t=>decide ((Sx.sH t).2.1.length≤1000) && decide ((Sx.sH t).2.2.1.length≤1000) && decide ((Sx.sH t).2.2.2.1.length≤1000) && ((Sx.sE t).all fun x=>nE n x) && nS n (Sx.sB t) && nS n (Sx.sO t)
def nG (n:Nat) (l:List Sx.Tr):Bool:=decide (n≤1000∧l.length≤1000) && l.all fun g=>decide ((Sx.gP g).length≤1000) && decide (Sx.wS n (Sx.gB g)≤1000) && decide ((Sx.gN g).length≤1000) && ((Sx.gP g).all fun p=>decide ((Sx.pH p).1.length≤1000∧(Sx.pH p).2.length≤1000)) && nS n (Sx.gB g)
end Bg
theorem nE_of: ∀ (n:Nat) (d:Sx.Tr),Bg.nE n d=true→Rn.nmE n d
 |0,_,_=>trivial
 |n+1,d,h=>by
  unfold Bg.nE at h
  rw [Bool.and_eq_true] at h
  exact ⟨Nat.le_trans (of_decide_eq_true h.1) (by decide),fun i x hx=>nE_of n x (List.all_eq_true.1 h.2 x (List.mem_of_getElem? hx))⟩
theorem nS_of: ∀ (n:Nat) (l:List Sx.Tr),Bg.nS n l=true→Rn.nmS n l
 |0,_,_=>trivial
 |n+1,l,h=>fun i t ht=>by
  have h1:=List.all_eq_true.1 h t (List.mem_of_getElem? ht)
  simp only [Bool.and_eq_true,decide_eq_true_eq] at h1
  obtain ⟨⟨⟨⟨⟨a1,a2⟩,a3⟩,a4⟩,a5⟩,a6⟩:=h1
  exact ⟨Nat.le_trans a1 (by decide),Nat.le_trans a2 (by decide),Nat.le_trans a3 (by decide),fun j x hx=>nE_of n x (List.all_eq_true.1 a4 x (List.mem_of_getElem? hx)),nS_of n _ a5,nS_of n _ a6⟩
theorem nG_of {n:Nat} {l:List Sx.Tr} (h:Bg.nG n l=true):Nm n l:=by
 unfold Bg.nG at h
 rw [Bool.and_eq_true,decide_eq_true_eq] at h
 have key: ∀ (i:Nat) d,l[i]? =some d→_:=fun i d hd=>List.all_eq_true.1 h.2 d (List.mem_of_getElem? hd)
 simp only [Bool.and_eq_true,decide_eq_true_eq] at key
 refine ⟨by omega,by omega,fun i d hd=> ?_,fun i d hd=> ?_,fun i d hd=> ?_⟩
 ·have:=(key i d hd).1.1.1.1
  omega
 ·have:=(key i d hd).1.1.1.2
  omega
 ·refine ⟨Nat.le_trans (key i d hd).1.1.2 (by decide),fun j p hp=> ?_,nS_of n _ (key i d hd).2⟩
  have:=List.all_eq_true.1 (key i d hd).1.2 p (List.mem_of_getElem? hp)
  simp only [decide_eq_true_eq] at this
  exact ⟨Nat.le_trans this.1 (by decide),Nat.le_trans this.2 (by decide)⟩
theorem check_ok:CheckOk:=fun w a cap hT hS=>by
 have:=rcheck_any 8 w _ oaL a cap hT hS (nG_of (by kernel_rfl))
 rw [oa_told] at this
 exact this
end Go.Proofs.YteeocekjekclbaaGreatDoor
namespace Go.Proofs.YteeocekjekclbaaGreatDoor
open Go.RowKit
def oaNX:List (List Int):=(Ow.nexts oaP oaP.ins.length).getD []
theorem oa_nx1:(Ow.nexts oaP oaP.ins.length).isSome=true:=by kernel_rfl
theorem oa_nx:Ow.nexts oaP oaP.ins.length=some oaNX:=by
 have h:=oa_nx1
 unfold oaNX
 cases hx:Ow.nexts oaP oaP.ins.length with
 |none=>rw [hx] at h;cases h
 |some y=>rfl
theorem oa_c1:decide (0<oaP.vars.length∧oaP.vars.length≤32)=true:=by kernel_rfl
theorem oa_c2:decide (oaP.ins.length≤3000)=true:=by kernel_rfl
theorem oa_c3:(oaP.ins.all fun x=>decide (x.args.length≤100000))=true:=by kernel_rfl
theorem oa_c4:decide ((Ow.acs oaP oaP.ins.length).length≤100000)=true:=by kernel_rfl
theorem oa_c5:(Ow.acs oaP oaP.ins.length).isEmpty=false:=by kernel_rfl
theorem oa_c6:((Ow.acs oaP oaP.ins.length).all fun a=>decide (0≤a.2.1∧a.2.1<32))=true:=by kernel_rfl
theorem oa_c7:(oaNX.all fun l=>decide (l.length≤100000))=true:=by kernel_rfl
def oaJ:List Int:=(Ow.judge oaP oaNX (Ow.acs oaP oaP.ins.length) 0 (List.range (Ow.acs oaP oaP.ins.length).length) (List.replicate (Ow.acs oaP oaP.ins.length).length 0)).getD []
theorem oa_j1:(Ow.judge oaP oaNX (Ow.acs oaP oaP.ins.length) 0 (List.range (Ow.acs oaP oaP.ins.length).length) (List.replicate (Ow.acs oaP oaP.ins.length).length 0)).isSome=true:=by kernel_rfl
theorem oa_j:Ow.judge oaP oaNX (Ow.acs oaP oaP.ins.length) 0 (List.range (Ow.acs oaP oaP.ins.length).length) (List.replicate (Ow.acs oaP oaP.ins.length).length 0)=some oaJ:=by
 have h:=oa_j1
 unfold oaJ
 cases hx:Ow.judge oaP oaNX (Ow.acs oaP oaP.ins.length) 0 (List.range (Ow.acs oaP oaP.ins.length).length) (List.replicate (Ow.acs oaP oaP.ins.length).length 0) with
 |none=>rw [hx] at h;cases h
 |some y=>rfl
theorem oa_t:Ow.told (Ow.acs oaP oaP.ins.length) oaJ=[(2,4,1)]:=by kernel_rfl
theorem notes_ok:NotesOk:=fun q w hp=>by
 refine (oNotes_ok hp oaNX oa_nx (of_decide_eq_true oa_c1) (of_decide_eq_true oa_c2) (fun x hx=>of_decide_eq_true (List.all_eq_true.1 oa_c3 x hx)) (of_decide_eq_true oa_c4) (fun e=>by have h:=oa_c5;rw [e] at h;cases h) (fun x hx=>of_decide_eq_true (List.all_eq_true.1 oa_c6 x hx)) (fun x hx=>of_decide_eq_true (List.all_eq_true.1 oa_c7 x hx)) oaJ oa_j).mono ?_
 rintro e w' ⟨v,rfl,ho,hb⟩
 rw [oa_t] at ho
 obtain ⟨g,c,rfl,-,-⟩:=ho.form (by decide)
 have h0:=ho.cells (g:=g) rfl 0 (.int .i64 2) rfl
 have h1:=ho.cells (g:=g) rfl 1 (.int .i64 4) rfl
 have h2:=ho.cells (g:=g) rfl 2 (.int .i64 1) rfl
 rw [add_off] at h0 h1 h2
 exact ⟨g,c,rfl,h0,h1,h2,hb⟩
theorem obegun_any (w:World) (hT:Tb w):Calls Tryz.prog 4 #[] w fun e w'=>e= .returned (.bool true)∧Below w.heap.size w w':=obegun_of notes_ok check_ok w hT
end Go.Proofs.YteeocekjekclbaaGreatDoor
