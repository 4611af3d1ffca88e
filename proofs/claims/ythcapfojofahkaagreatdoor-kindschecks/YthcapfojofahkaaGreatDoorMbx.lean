import Derived.Test.YthcapfojofahkaaGreatDoorMbk
import Derived.Test.YthcapfojofahkaaGreatDoorMbw
import Derived.Test.YthcapfojofahkaaGreatDoorMac
import Derived.Test.YthcapfojofahkaaGreatDoorMaa
import Derived.Defers
import Derived.Recover
import Derived.Test.YthcapfojofahkaaGreatDoorMae
import Derived.Test.YthcapfojofahkaaGreatDoorMba
namespace Go.Proofs.YthcapfojofahkaaGreatDoor
open Go.RowKit
def Kn.vt (n:Nat) (l:List Sx.Tr):Int × Int:=match Kn.vars n l with
 | .inr f=>f
 | .inl _=>(0,0)
theorem VsP.vt {w:World} {n:Nat} {l:List Sx.Tr} {e:Ending} {w':World} (h:VsP w (Kn.vars n l) e w'): ∃ v,e= .returned (.tuple #[v,.agg #[.int .i64 (Kn.vt n l).1,.int .i64 (Kn.vt n l).2]])∧Kp [] w w':=by
 unfold Kn.vt
 cases hv:Kn.vars n l with
 |inr f=>
  rw [hv] at h
  exact ⟨_,h⟩
 |inl o=>
  rw [hv] at h
  obtain ⟨a,c,h1,-,h2⟩:=h
  exact ⟨_,h1,h2⟩
set_option maxRecDepth 100000 in
set_option maxHeartbeats 1000000 in
theorem kCheck_any (n:Nat) (w:World) (P:Nat→Prop) (l:List Sx.Tr) (a:Option Addr) (c:Nat) (hT:Tb w) (h:Sl (RG w P n) w P l (.slice a l.length c)) (hN:Nm n l) (hPw: ∀ b,P b→b<w.heap.size) (hlB: ∀ g ∈ l,(Sx.gB g).length≤1000000):
  Calls Tryz.prog 11 #[.agg #[.slice a l.length c]] w fun e w'=>e= .returned (.agg #[.int .i64 (Kn.vt n l).1,.int .i64 (Kn.vt n l).2])∧Kp [] w w':=by
 have K2:Hid (Kp [] w ((w.alloc (.cells #[.slice a l.length c] 24)).alloc (.cells #[.int .i64 0,.int .i64 0] 30))):=hide (((Kp.refl _ _).alloc _).alloc _)
 have HC:=hide (kVars_any n _ P l a c (hT.kp K2.out) (GL.keep h K2.out) hN (fun b hb=>Nat.lt_of_lt_of_le (hPw b hb) K2.out.size) hlB)
 have B2:Hid (FB w (.slice a l.length c) ((w.alloc (.cells #[.slice a l.length c] 24)).alloc (.cells #[.int .i64 0,.int .i64 0] 30))):=hide ⟨K2.out,by simp [go_sem],by simp [go_sem],by simp [go_sem],by simp [go_sem],by simp [go_sem]⟩
 clear h hT hN K2
 obtain ⟨F,hF⟩: ∃ F,Kn.vt n l=F:=⟨_,rfl⟩
 rw [hF]
 go_enter Tryz.func11,Tryz.ntmps11
 go_wp2_with fail
 refine HC.out.mono ?_
 intro e w3 hv
 obtain ⟨v,he,hk3⟩:=hv.vt
 rw [hF] at he
 subst he
 clear hv
 obtain ⟨k5,-,r0,r1,f0,f1⟩:=B2.out.go hk3
 have hb4:=World.block_lt_of_cell? _ _ r0
 clear hk3 HC
 go_wp2
 refine bodyPost_ret (v:= .agg #[.int .i64 F.1,.int .i64 F.2]) (by simp [results,Tryz.results11,go_sem,r0,r1,hb4]) rfl ⟨rfl,?_⟩
 exact ((k5.nb (by omega) _ _).nb (by omega) _ _).alloc _
end Go.Proofs.YthcapfojofahkaaGreatDoor
namespace Go.Proofs.YthcapfojofahkaaGreatDoor
open Go.RowKit
namespace Bg
def stages (K:List Nat) (e:Nat) (T:List Tk.Tok) (f:Nat):Nat→List Sx.Tr→Nat→Sx.St→Option (List Sx.Tr)
 |0,_,_,_=>none
 |q+1,acc,n,s=>if (T.drop n).isEmpty then some acc else if 10≤acc.length then none else (stage K e T f n s).bind fun r=>stages K e T f q (acc++[r.1]) r.2.1 r.2.2
def prog (K:List Nat) (e:Nat) (T:List Tk.Tok) (f:Nat):Option (List Sx.Tr):=(stage K e T f 0 Sx.s0).bind fun r=>stages K e T f 10 [r.1] r.2.1 r.2.2
end Bg
structure LG (c:Cx) (w w':World) (n:Nat) (s:Sx.St) (v:Value) (acc:List Sx.Tr) (cs:List Value) (k:Nat):Prop where
 rd:RD c w' n s
 kp:Kp [c.rb] w w'
 own:w'.ownsRow (w.heap.size+1) 43 4 v acc.length cs
 rw:Rw (RG w' (fun b=>w.heap.size+1≤b∧some b ≠ v.ownBlock) k) acc cs
 z:SB w' w.heap.size [.slice none 0 0]
theorem LG.go {c:Cx} {w w1 w2:World} {n n2:Nat} {s s2:Sx.St} {v:Value} {acc:List Sx.Tr} {cs:List Value} {k:Nat} (h:LG c w w1 n s v acc cs k) (hr:c.rb<w.heap.size) (hd:RD c w2 n2 s2) (hk:Kp [c.rb] w1 w2):LG c w w2 n2 s2 v acc cs k:=
 ⟨hd,h.kp.trans hk,own_keep h.own hk (by simp;omega),h.rw.mono (fun d cc hd=>hd.keep hk (by simp;omega)),h.z.keep hk (by simp;omega)⟩
theorem own_one (w:World) (B:Nat) (a b c d:Value) (t:TypeId) (hB:B≤w.heap.size):(w.alloc (.cells #[a,b,c,d] t)).ownsRow B t 4 (.slice (some ⟨w.heap.size,0,none⟩) 1 1) 1 [a,b,c,d]:=
 ⟨rfl,.inr ⟨w.heap.size,1,#[a,b,c,d],rfl,hB,heap_alloc_new w _,Nat.le_refl _,by decide,rfl,rfl⟩⟩
set_option maxRecDepth 100000 in
set_option maxHeartbeats 4000000 in
theorem program_ok (K:List Nat) (f:Nat) (hBl:BlC K f) {c:Cx} {w:World} {l:List Sx.Tr} (h:RD c w 0 Sx.s0) (hx:Bg.prog K c.e c.full f=some l):
  Calls Tryz.prog 52 #[.pointer (some ⟨c.rb,0,none⟩)] w fun e w'=> ∃ m a cap,e= .returned (.agg #[.slice a l.length cap])∧Sl (RG w' (fun b=>w.heap.size≤b) m) w' (fun b=>w.heap.size≤b) l (.slice a l.length cap)∧Kp [c.rb] w w':=by
 obtain ⟨i0,hi0,hz0,hz1,hz2⟩:=info_parts Tryz.infoStage
 obtain ⟨⟨d,n1,s1⟩,h1,hx⟩:=obind hx
 have H1:=hide h1
 have HX:=hide hx
 have HH:=hide h
 have HB:=hide h.lt
 have HBl:=hide hBl
 have hr:=h.rlt
 clear h h1 hx hBl
 go_enter Tryz.func52,Tryz.ntmps52
 go_wp2_with fail
 refine (stage_ok K f HBl.out (by exact HH.out.alloc _) H1.out).mono ?_
 rintro e w1 ⟨v1,⟨m1,nm1,at1,a1,x1,y1,a2,x2,y2,rfl,hRG⟩,rfl,hd1,hk1⟩
 have hz:=hk1.size
 simp at hz
 have HL0:Hid (LG c w (w1.alloc (.cells #[.string nm1,.int .i64 at1,.slice a1 x1 y1,.slice a2 x2 y2] 43)) n1 s1 (.slice (some ⟨w1.heap.size,0,none⟩) 1 1) [d] [.string nm1,.int .i64 at1,.slice a1 x1 y1,.slice a2 x2 y2] m1):=by
  refine hide ⟨hd1.alloc _,(((Kp.refl _ _).alloc _).trans hk1).alloc _,own_one _ _ _ _ _ _ _ (by omega),⟨_,[],(List.append_nil _).symm,?_,rfl⟩,((SB.new w _ rfl [.slice none 0 0] 24).keep hk1 (by simp;omega)).keep ((Kp.refl [] _).alloc _) (by simp)⟩
  refine (hRG.base (P':=fun b=>w.heap.size+1≤b∧some b ≠ some w1.heap.size) (fun b h1 h2=> ?_)).keep (S:=[]) ((Kp.refl _ _).alloc _) (by simp)
  simp at h2
  exact ⟨by omega,fun e=>by simp at e;omega⟩
 clear hRG hd1 hk1
 go_wp2
 go_loopw [3] (fun v wr=> ∃ (q n3 k:Nat) (acc:List Sx.Tr) (s3:Sx.St) (cs:List Value) (a:Option Addr) (cap:Nat),v= .slice a acc.length cap∧Hid (Bg.stages K c.e c.full f q acc n3 s3=some l)∧Hid (LG c w wr n3 s3 v acc cs k)) (fun v _=>10 - lenOf v)
 case atStart=>exact ⟨10,n1,m1,[d],s1,_,_,_,rfl,HX.out,HL0.out⟩
 case round=>
  obtain ⟨q,n3,k,acc,s3,cs,av,capv,rfl,HQ,HL⟩:=hrel
  have hsz:=HL.out.kp.size
  match q,HQ with
  |0,HQ=>cases HQ.out
  |q+1,HQ=>
  rcases oif HQ.out with ⟨hov,hp⟩|⟨hov,hp⟩
  ·cases hp
   have HOV:=hide hov
   have z0:=HL.out.z.cs 0 _ rfl
   have zf:=HL.out.z.fz
   clear hov
   go_wp2_with fail
   refine (over_no HOV.out HL.out.rd).mono ?_
   rintro e w4 ⟨rfl,k4,rfl⟩
   go_wp2
   have kz:Kp [w.heap.size] wr ((wr.drewN k4).setCell ⟨w.heap.size,0,none⟩ (.slice av l.length capv)):=Kp.rb ((Kp.refl _ _).drewN _) _ _
   refine bodyPost_ret (v:= .agg #[.slice av l.length capv]) (by simp [results,Tryz.results52,go_sem,z0]) rfl ⟨k,_,_,rfl,?_,Kp.new ((HL.out.kp.mono (by simp)).trans (kz.mono (S':=[w.heap.size,c.rb]) (by simp))) (Nat.le_refl _)⟩
   refine Sl.of_own (B:=w.heap.size+1) (own_keep HL.out.own kz (by simp)) rfl (fun b hb=>by omega) ?_
   exact HL.out.rw.mono (fun d cc hd=>(hd.keep kz (fun k hk hP=>by simp at hk;omega)).base (fun b _ hb=>by omega))
  ·rcases oif hp with ⟨_,hp⟩|⟨h10,hp⟩
   ·cases hp
   obtain ⟨⟨d5,n5,s5⟩,h5,hp⟩:=obind hp
   have HOV:Hid ((c.full.drop n3).isEmpty=false):=hide (by simpa using hov)
   have H5:=hide h5
   have HP5:=hide hp
   have d10:((acc.length:Int) == 10)=false:=by simp;omega
   clear hov h5 hp
   go_wp2_with fail
   refine (over_no HOV.out HL.out.rd).mono ?_
   rintro e w4 ⟨rfl,k4,rfl⟩
   go_wp2_with fail
   refine (stage_ok K f HBl.out (HL.out.rd.drewN _) H5.out).mono ?_
   rintro e w5 ⟨v5,⟨m5,nm5,at5,b1,x1,y1,b2,x2,y2,rfl,hRG⟩,rfl,hd5,hk5⟩
   have HL5:=hide (HL.out.go hr hd5 (((Kp.refl _ _).drewN _).trans hk5))
   have HRG:=hide hRG
   have HOL:=hide (own_lt HL.out.own)
   have hsz5:=hk5.size
   simp at hsz5
   have hl1:=HL.out.z.lt
   clear hd5 hk5 hRG
   go_wp2_with (at_builtin;refine wpList_append_lies _ rfl _ _ 22 rfl (w.heap.size+1) 43 i0 (.agg #[.string ⟨#[]⟩,.int .i64 0,.slice none 0 0,.slice none 0 0]) 4 72 Tryz.underlying22 hi0 hz0 hz1 hz2 rfl (by decide) _ _ _ rfl (by exact HL5.out.own.alloc _) ⟨w5.heap.size,0,none⟩ 1 1 [.string nm5,.int .i64 at5,.slice b1 x1 y1,.slice b2 x2 y2] rfl rfl ?c1 ?c2 ?c3 ?c4 ?c5 ?c6 _ rfl ?_)
   case c1=>exact cells_four_new _ _ rfl _ _ _ _ _
   case c2=>intro u hu;simp at hu;rcases hu with rfl|rfl|rfl|rfl<;> rfl
   case c3=>decide
   case c4=>unfold maxLen;omega
   case c5=>omega
   case c6=>simp;omega
   ·intro g cap w6 hown hgrow hat hlt
    have hblk:=own_blk HL5.out.own
    have hR:Rw (RG (w5.alloc (.cells #[.string nm5,.int .i64 at5,.slice b1 x1 y1,.slice b2 x2 y2] 43)) (fun b=>w.heap.size+1≤b∧some b ≠ Value.ownBlock (.slice av acc.length capv)) (k+m5)) (acc++[d5]) (cs++[.string nm5,.int .i64 at5,.slice b1 x1 y1,.slice b2 x2 y2]):=by
     refine Rw.snoc (HL5.out.rw.mono (fun d cc hd=>(hd.keep (S:=[]) ((Kp.refl _ _).alloc _) (by simp)).more m5)) ?_
     rw [Nat.add_comm k m5]
     refine ((HRG.out.base (P':=fun b=>w.heap.size+1≤b∧some b ≠ Value.ownBlock (.slice av acc.length capv)) (fun b _ hb=> ?_)).keep (S:=[]) ((Kp.refl _ _).alloc _) (by simp)).more k
     simp at hb
     exact ⟨by omega,fun e=>by have:=HOL.out b e;omega⟩
    have HL6:Hid (LG c w w6 n5 s5 (.slice (some ⟨g,0,none⟩) (acc.length+1) cap) (acc++[d5]) (cs++[.string nm5,.int .i64 at5,.slice b1 x1 y1,.slice b2 x2 y2]) (k+m5)):=
     hide ⟨(HL5.out.rd.alloc _).grown hgrow hblk ⟨by have:=HB.out.1;omega,fun hne=>by have:=HB.out.2 hne;omega⟩,(HL5.out.kp.alloc _).grown hgrow (fun k hk=> .inl (by have:=hblk k (by rw [hk];simp);omega)),by rw [List.length_append];exact hown,rows_grow (R:=fun w P d c=>RG w P (k+m5) d c) (fun w w' S P d c h hk hS=>h.keep hk hS) (fun w P P' d c h hP=>h.base hP) hR hgrow (by simpa using hat),(HL5.out.z.keep ((Kp.refl [] _).alloc _) (by simp)).keep (Kp.of_grown hgrow) (fun hm=>by have:=hblk _ hm;omega)⟩
    clear hR hown hgrow hat
    go_wp2
    refine ⟨⟨q,n5,k+m5,acc++[d5],s5,_,some ⟨g,0,none⟩,cap,by simp,HP5.out,HL6.out⟩,?_⟩
    show 10 - (acc.length+1)<10 - acc.length
    omega
end Go.Proofs.YthcapfojofahkaaGreatDoor
namespace Go.Proofs.YthcapfojofahkaaGreatDoor
open Go.RowKit
theorem assert_no (w:World):(Instr.typeAssert .nilIface 20 108 true).run Tryz.prog w= .ok (.tuple #[.agg #[.int .i64 0,.int .i64 0],.bool false]) w:=by kernel_rfl
set_option maxRecDepth 100000 in
set_option maxHeartbeats 1000000 in
theorem catch_idle (p q:Addr) (w:World):
  CallsD Tryz.prog 51 #[.pointer (some p),.pointer (some q)] .returning w fun e u' w'=>e= .returned (.tuple #[])∧u'= .returning∧Kp [] w w':=by
 refine callsD_of_wpS Tryz.func51 rfl fun c₀ cs hu=> ?_
 apply wpS_seq
 apply wpS_region
 have hta:=assert_no
 simp [wpOpsS,go_sem,recoverD,hu,Tryz.ntmps51,Exit.thenS,hta,Array.replicate]
 refine wpS_of_wp ?_
 clear hta
 go_wp2
 refine ⟨rfl,.returning,?_,.tuple #[],by simp [results,Tryz.results51,go_sem],rfl,rfl,(Kp.refl _ _).alloc _⟩
 cases c₀
 simp_all
structure RV (w:World) (ob:Nat) (u:Value):Prop where
 o:SB w ob [u]
 f:SB w (ob+1) [.int .i64 0,.int .i64 0]
theorem RV.keep {w w':World} {S:List Nat} {ob:Nat} {u:Value} (h:RV w ob u) (k:Kp S w w') (h1:ob ∉ S) (h2:ob+1 ∉ S):RV w' ob u:=⟨h.o.keep k h1,h.f.keep k h2⟩
theorem RV.new (w:World) (t t':TypeId):RV ((w.alloc (.cells #[.slice none 0 0] t)).alloc (.cells #[.int .i64 0,.int .i64 0] t')) w.heap.size (.slice none 0 0):=
 ⟨(SB.new w _ rfl [_] _).keep ((Kp.refl [] _).alloc _) (by simp),SB.new (w.alloc (.cells #[.slice none 0 0] t)) _ (by simp) [_,_] _⟩
theorem RV.put {w0 w:World} {ob:Nat} {u:Value} (h:RV w ob u) (v:Value) {P:Nat→Prop} {m:Nat} {l:List Sx.Tr} (hs:Sl (RG w P m) w P l v) (hP: ∀ b,P b→ob+1<b) {S:List Nat} (hk:Kp S w0 w) (hb:w0.heap.size≤ob):
  RV (((w.setCell ⟨ob,0,none⟩ v).setCell ⟨ob+1,0,none⟩ (.int .i64 0)).setCell ⟨ob+1,1,none⟩ (.int .i64 0)) ob v∧Sl (RG (((w.setCell ⟨ob,0,none⟩ v).setCell ⟨ob+1,0,none⟩ (.int .i64 0)).setCell ⟨ob+1,1,none⟩ (.int .i64 0)) P m) (((w.setCell ⟨ob,0,none⟩ v).setCell ⟨ob+1,0,none⟩ (.int .i64 0)).setCell ⟨ob+1,1,none⟩ (.int .i64 0)) P l v∧Kp S w0 (((w.setCell ⟨ob,0,none⟩ v).setCell ⟨ob+1,0,none⟩ (.int .i64 0)).setCell ⟨ob+1,1,none⟩ (.int .i64 0)):=by
 have k:Kp [ob+1,ob] w (((w.setCell ⟨ob,0,none⟩ v).setCell ⟨ob+1,0,none⟩ (.int .i64 0)).setCell ⟨ob+1,1,none⟩ (.int .i64 0)):=Kp.rb (Kp.rb ((Kp.refl _ _).setCell (p:=⟨ob,0,none⟩) (by simp) _) _ _) _ _
 have hS: ∀ j,j ∈ [ob+1,ob]→ ¬ P j:=fun j hj hp=>by have:=hP j hp;simp at hj;omega
 refine ⟨⟨(h.o.set (j:=0) rfl v).keep (Kp.rb (Kp.rb (Kp.refl [ob+1] _) 0 (.int .i64 0)) 1 (.int .i64 0)) (by simp),((h.f.keep (Kp.rb (Kp.refl [ob] w) 0 v) (by simp)).set (j:=0) rfl (.int .i64 0)).set (j:=1) rfl (.int .i64 0)⟩,hs.keep k hS (fun d c h=>h.keep k hS),Kp.nb (Kp.nb (Kp.nb hk hb _ _) (by omega) _ _) (by omega) _ _⟩
def TellP (w:World) (S:List Nat) (l:List Sx.Tr) (e:Ending) (w':World):Prop:= ∃ m a cap,e= .returned (.tuple #[.agg #[.slice a l.length cap],.agg #[.int .i64 0,.int .i64 0]])∧Sl (RG w' (fun b=>w.heap.size≤b) m) w' (fun b=>w.heap.size≤b) l (.slice a l.length cap)∧Kp S w w'
theorem Sl.less {w:World} {m B B':Nat} {l:List Sx.Tr} {v:Value} (h:Sl (RG w (fun b=>B'≤b) m) w (fun b=>B'≤b) l v) (hB:B≤B'):Sl (RG w (fun b=>B≤b) m) w (fun b=>B≤b) l v:=
 h.base (fun b _ hb=>Nat.le_trans hB hb) (fun d c h=>⟨h.base (fun b _ hb=>Nat.le_trans hB hb),by obtain ⟨_,_,_,_,_,_,_,rfl,_⟩:=h;simp⟩)
set_option maxRecDepth 100000 in
set_option maxHeartbeats 2000000 in
theorem read_ok (K:List Nat) (f:Nat) (hBl:BlC K f) {c:Cx} {w:World} {l:List Sx.Tr} (h:RD c w 0 Sx.s0) (hx:Bg.prog K c.e c.full f=some l):
  Calls Tryz.prog 33 #[.pointer (some ⟨c.rb,0,none⟩)] w (TellP w [c.rb] l):=by
 have hmf: ∀ (fn:Fn) (first cap:Array Value) (w:World),(Instr.makeFunc fn first cap).run Tryz.prog w= .ok (.func fn first cap) w:=fun _ _ _ _=>rfl
 have HP:=hide (program_ok K f hBl ((h.alloc (.cells #[.slice none 0 0] 24)).alloc (.cells #[.int .i64 0,.int .i64 0] 30)) hx)
 have hr:=h.rlt
 have HR:=hide (RV.new w 24 30)
 clear h hx hBl
 go_enter_defers Tryz.func33,Tryz.ntmps33
 go_wp2_with fail
 refine HP.out.mono ?_
 rintro e w1 ⟨m,a,cap,rfl,hSl,hk1⟩
 have hz:=hk1.size
 simp at hz
 have hR:=HR.out.keep hk1 (by simp;omega) (by simp;omega)
 have HZ:=hide (hR.put (.slice a l.length cap) hSl (fun b hb=>by simp at hb;omega) ((((Kp.refl [c.rb] w).alloc _).alloc _).trans hk1) (Nat.le_refl _))
 have o0:=hR.o.cs 0 _ rfl
 have oz:=hR.o.fz
 have f0:=hR.f.cs 0 _ rfl
 have f1:=hR.f.cs 1 _ rfl
 have fz:=hR.f.fz
 clear hR hk1 hSl HP HR
 go_wp2
 refine leaves_cons (f:=51) (args:= #[.pointer (some ⟨w.heap.size,0,none⟩),.pointer (some ⟨w.heap.size+1,0,none⟩)]) (by simp) (by simp [go_sem]) ?_
 refine (catch_idle ⟨w.heap.size,0,none⟩ ⟨w.heap.size+1,0,none⟩ _).mono ?_
 rintro e u' w'' ⟨rfl,rfl,hk⟩
 obtain ⟨z1,z2,z3⟩:=HZ.out
 have z4:=z1.keep hk (by simp) (by simp)
 have p0:=z4.o.cs 0 _ rfl
 have g0:=z4.f.cs 0 _ rfl
 have g1:=z4.f.cs 1 _ rfl
 refine ⟨.tuple #[.agg #[.slice a l.length cap],.agg #[.int .i64 0,.int .i64 0]],by simp [results,Tryz.results33,go_sem,p0,g0,g1],m,a,cap,rfl,?_,z3.trans (hk.mono (by simp))⟩
 exact (z2.keep hk (by simp) (fun d c h=>h.keep hk (by simp))).less (by simp;omega)
theorem rd_start {w:World} {B:Nat} {v:Value} {ts:List Tk.Tok} {e:Nat} (h:w.ownsRow B 103 4 v ts.length (tcells ts)) (hl:ts.length≤12000) (he:e≤12000) (hat: ∀ (i:Nat) t,ts[i]? =some t→t.at'≤12000) (hv: ∃ a n cap,v= .slice a n cap):
  ∃ c:Cx,c.rb=w.heap.size∧c.full=ts∧c.e=e∧v= .slice c.a c.full.length c.cap∧RD c (w.alloc (.cells #[v,.int .i64 0,.int .i64 e,.int .i64 0,.int .i64 0,.int .i64 0,.int .i64 0] 81)) 0 Sx.s0:=by
 have hex: ∃ a cap tb,v= .slice a ts.length cap∧(ts ≠ []→a=some ⟨tb,0,none⟩∧tb<w.heap.size)∧ ∀ (i:Nat) t,ts[i]? =some t→w.cell? ⟨tb,i * 4,none⟩=some (.int .i64 t.kind)∧w.cell? ⟨tb,i * 4+1,none⟩=some (.int .i64 (t.at':Int))∧
  w.cell? ⟨tb,i * 4+2,none⟩=some (.string (bs t.text))∧w.cell? ⟨tb,i * 4+3,none⟩=some (.int .i64 t.n):=by
  rcases h.2 with ⟨hv,hn⟩|⟨g,cap,cur,hv,hB,hg,_⟩
  ·have hts:ts=[]:=by cases ts with
    |nil=>rfl
    |cons a r=>simp at hn
   subst hts
   exact ⟨none,0,0,hv,fun h=>absurd rfl h,fun i t hi=>by simp at hi⟩
  ·refine ⟨_,cap,g,hv,fun _=>⟨rfl,?_⟩,fun i t hi=> ?_⟩
   ·rcases Nat.lt_or_ge g w.heap.size with h'|h'
    ·exact h'
    ·rw [Array.getElem?_eq_none h'] at hg;cases hg
   ·obtain ⟨t0,t1,t2,t3⟩:=tcells_at ts i t hi
    have hc:=h.cells (g:=g) (by rw [hv];rfl)
    have c0:=hc _ _ t0
    have c1:=hc _ _ t1
    have c2:=hc _ _ t2
    have c3:=hc _ _ t3
    rw [Addr.add_mid,Nat.zero_add] at c0 c1 c2 c3
    exact ⟨c0,c1,c2,c3⟩
 obtain ⟨a,cap,tb,rfl,hne,htk⟩:=hex
 refine ⟨⟨w.heap.size,tb,cap,a,ts,e⟩,rfl,rfl,rfl,rfl,?_⟩
 have k:Kp [] w (w.alloc (.cells #[.slice a ts.length cap,.int .i64 0,.int .i64 e,.int .i64 0,.int .i64 0,.int .i64 0,.int .i64 0] 81)):=(Kp.refl _ _).alloc _
 exact { hn:=Nat.zero_le _,hm:=hl,he:=he,rlt:=by simp,c0:=by simp [go_sem],c1:=by simp [go_sem],c2:=by simp [go_sem],c3:=by simp [go_sem,Sx.s0],c4:=by simp [go_sem,Sx.s0],c5:=by simp [go_sem,Sx.s0],c6:=by simp [go_sem,Sx.s0],b3:=by simp [Sx.s0],b4:=by simp [Sx.s0],b5:=by simp [Sx.s0],b6:=by simp only [Sx.s0];omega,fz:=fun o=>by simp [go_sem],ne:=fun h=>⟨(hne h).1,by have:=(hne h).2;simp only;omega⟩,tk:=fun i t hi=>match htk i t hi with|⟨c0,c1,c2,c3⟩=>⟨k.some c0 (by simp),k.some c1 (by simp),k.some c2 (by simp),k.some c3 (by simp),hat i t hi⟩ }
set_option maxRecDepth 100000 in
set_option maxHeartbeats 2000000 in
theorem parse_ok (K:List Nat) (f:Nat) (hBl:BlC K f) {s:ByteArray} {w:World} {T:List Tk.Tok} {pp:Int} {l:List Sx.Tr} (hw:WTab w) (hs:s.size≤12000) (hT:Tk.scan s.data.toList=(T,0,pp)) (hl:T.length≤12000) (hat: ∀ (i:Nat) t,T[i]? =some t→t.at'≤12000) (hx:Bg.prog K s.size T f=some l):
  Calls Tryz.prog 16 #[.string s] w (TellP w [] l):=by
 have HSC:=hide (scan_in s ((w.alloc (.cells #[.slice none 0 0] 24)).alloc (.cells #[.int .i64 0,.int .i64 0] 30)) (hw.below (((Below.refl _ _).alloc (Nat.le_refl _) _).alloc (by simp) _)) hs)
 rw [hT] at HSC
 unfold scanV at HSC
 have HR:=hide (RV.new w 24 30)
 have HB:=hide hBl
 have HX:=hide hx
 have HA:=hide hat
 clear hx hat hBl hT hw
 go_enter Tryz.func16,Tryz.ntmps16
 go_wp2_with fail
 refine HSC.out.mono ?_
 rintro e w1 ⟨v,rfl,hown,hb1⟩
 have hvs: ∃ a n cap,v= .slice a n cap:=by
  rcases hown.2 with ⟨hv,_⟩|⟨g,cap,cur,hv,_⟩
  ·exact ⟨_,_,_,hv⟩
  ·exact ⟨_,_,_,hv⟩
 obtain ⟨c,hrb,hfu,he,hv,hrd⟩:=rd_start (e:=s.size) (hown.alloc (.cells #[.int .i64 0,.int .i64 pp] 30)) hl hs HA.out hvs
 have hrb':c.rb=w1.heap.size+1:=by rw [hrb];simp
 have HRD:=hide (read_ok K f HB.out (l:=l) hrd (by rw [hfu,he];exact HX.out))
 have hz1:=hb1.size
 simp at hz1
 have HR1:=hide (HR.out.keep (Kp.of_below (S:=[]) hb1) (by simp) (by simp))
 have K1:Hid (Kp [] w w1):=(((Kp.refl _ _).alloc _).alloc _).trans (Kp.of_below hb1)
 obtain ⟨av,nv,cv,rfl⟩:=hvs
 rw [hrb'] at HRD
 clear hown hb1 hrb hrd hv
 have hq1:w.heap.size<w1.heap.size:=by omega
 have hq2:w.heap.size+1<w1.heap.size:=by omega
 go_wp2_with fail
 refine HRD.out.mono ?_
 rintro e w2 ⟨m,a,cap,rfl,hSl,hk⟩
 have k2:Kp [w1.heap.size+1] w1 w2:=(((Kp.refl _ _).alloc _).alloc _).trans hk
 have hR:=HR1.out.keep k2 (by simp;omega) (by simp;omega)
 have HZ:=hide (hR.put (.slice a l.length cap) hSl (fun b hb=>by simp at hb;omega) (Kp.new (b:=w1.heap.size+1) ((K1.out.mono (by simp)).trans k2) (by omega)) (Nat.le_refl _))
 have o0:=hR.o.cs 0 _ rfl
 have oz:=hR.o.fz
 have f0:=hR.f.cs 0 _ rfl
 have f1:=hR.f.cs 1 _ rfl
 have fz:=hR.f.fz
 clear hR hk k2 hSl
 go_wp2
 obtain ⟨z1,z2,z3⟩:=HZ.out
 have p0:=z1.o.cs 0 _ rfl
 have g0:=z1.f.cs 0 _ rfl
 have g1:=z1.f.cs 1 _ rfl
 exact bodyPost_ret (v:= .tuple #[.agg #[.slice a l.length cap],.agg #[.int .i64 0,.int .i64 0]]) (by simp [results,Tryz.results16,go_sem,p0,g0,g1]) rfl ⟨m,a,cap,rfl,z2.less (by simp;omega),z3⟩
end Go.Proofs.YthcapfojofahkaaGreatDoor
namespace Go.Proofs.YthcapfojofahkaaGreatDoor
open Go.RowKit
namespace Bg
def okE:Nat→List Sx.Tr→Bool
 |0,_=>false
 |n+1,l=>l.all fun d=>okE n (Sx.eL d)
def okS:Nat→List Sx.Tr→Bool
 |0,_=>false
 |n+1,l=>l.all fun d=>okE n (Sx.sE d) && okS n (Sx.sB d) && okS n (Sx.sO d)
def okG (n:Nat) (l:List Sx.Tr):Bool:=l.all fun g=>okS n (Sx.gB g)
end Bg
theorem Rw.mem {R R':Sx.Tr→List Value→Prop} {l:List Sx.Tr} {cs:List Value} (h:Rw R l cs) (hR: ∀ d c,d ∈ l→R d c→R' d c):Rw R' l cs:=by
 induction l generalizing cs with
 |nil=>exact h
 |cons d r ih=>
  obtain ⟨c1,c2,h1,h2,h3⟩:=h
  exact ⟨c1,c2,h1,hR _ _ (by simp) h2,ih h3 (fun d c hd=>hR d c (by simp [hd]))⟩
theorem Sl.mem {R R':Sx.Tr→List Value→Prop} {w:World} {P:Nat→Prop} {l:List Sx.Tr} {v:Value} (h:Sl R w P l v) (hR: ∀ d c,d ∈ l→R d c→R' d c):Sl R' w P l v:=by
 obtain ⟨a,cap,hv,h⟩:=h
 refine ⟨a,cap,hv,h.imp id ?_⟩
 rintro ⟨b,off,cs,ha,hb,hr,hc⟩
 exact ⟨b,off,cs,ha,hb,hr.mem hR,hc⟩
theorem EL.level {w:World} {P:Nat→Prop}: ∀ (n:Nat) {m:Nat} {l:List Sx.Tr} {v:Value},EL w P m l v→Bg.okE n l=true→EL w P n l v
 |0,_,_,_,_,hk=>by cases hk
 |n+1,0,_,_,h,_=>by cases h
 |n+1,m+1,l,v,h,hk=>by
  obtain ⟨a,cap,hv,h⟩:=h
  refine ⟨a,cap,hv,h.imp id ?_⟩
  rintro ⟨b,off,ha,hb,hc⟩
  refine ⟨b,off,ha,hb,fun i d hd=> ?_⟩
  obtain ⟨op,nm,k,L,u,h1,h2,h3,h4,h5,h6⟩:=hc i d hd
  refine ⟨op,nm,k,L,u,h1,h2,h3,h4,h5,EL.level n h6 ?_⟩
  have:=List.all_eq_true.1 hk d (List.mem_of_getElem? hd)
  rw [h1] at this
  exact this
theorem SL.level {w:World} {P:Nat→Prop}: ∀ (n:Nat) {m:Nat} {l:List Sx.Tr} {v:Value},SL w P m l v→Bg.okS n l=true→SL w P n l v
 |0,_,_,_,_,hk=>by cases hk
 |n+1,0,_,_,h,_=>by cases h
 |n+1,m+1,l,v,h,hk=>by
  rw [SL_succ] at h ⊢
  refine h.mem ?_
  rintro d c hd ⟨D,at',A,B,T,N,E,body,els,uE,uB,uL,rfl,h2,h3,h4,h5⟩
  have h6:=List.all_eq_true.1 hk _ hd
  rw [Bool.and_eq_true,Bool.and_eq_true] at h6
  exact ⟨D,at',A,B,T,N,E,body,els,uE,uB,uL,rfl,h2,EL.level n h3 h6.1.1,SL.level n h4 h6.1.2,SL.level n h5 h6.2⟩
theorem GL.level {w:World} {P:Nat→Prop} (n:Nat) {m:Nat} {l:List Sx.Tr} {v:Value} (h:Sl (RG w P m) w P l v) (hk:Bg.okG n l=true):Sl (RG w P n) w P l v:=by
 refine h.mem ?_
 rintro d c hd ⟨nm,at',ps,body,uP,uB,rfl,h2,h3,h4⟩
 exact ⟨nm,at',ps,body,uP,uB,rfl,h2,h3,SL.level n h4 (List.all_eq_true.1 hk _ hd)⟩
theorem toks_at {T:List Tk.Tok} (h:(T.all fun t=>decide (t.at'≤12000))=true): ∀ (i:Nat) t,T[i]? =some t→t.at'≤12000:=fun i t hi=>by
 simpa using List.all_eq_true.1 h t (List.mem_of_getElem? hi)
theorem parse_at (K:List Nat) (f n:Nat) (hBl:BlC K f) (s:ByteArray) {l:List Sx.Tr} (hs:s.size≤12000) (h0:(Tk.scan s.data.toList).2.1=0) (hl:(Tk.scan s.data.toList).1.length≤12000) (hat:((Tk.scan s.data.toList).1.all fun t=>decide (t.at'≤12000))=true) (hx:Bg.prog K s.size (Tk.scan s.data.toList).1 f=some l) (hk:Bg.okG n l=true) {w:World} (hw:WTab w):
  Calls Tryz.prog 16 #[.string s] w fun e w'=> ∃ a cap,e= .returned (.tuple #[.agg #[.slice a l.length cap],.agg #[.int .i64 0,.int .i64 0]])∧Sl (RG w' (fun b=>b<w'.heap.size) n) w' (fun b=>b<w'.heap.size) l (.slice a l.length cap)∧Kp [] w w':=by
 refine (parse_ok K f hBl hw hs (pp:=(Tk.scan s.data.toList).2.2) (by rw [←h0]) hl (toks_at hat) hx).mono ?_
 rintro e w' ⟨m,a,cap,rfl,hS,hk'⟩
 refine ⟨a,cap,rfl,?_,hk'⟩
 exact (GL.level n hS hk).base (fun b hb _=>hb) (fun d c h=>⟨h.base (fun b hb _=>hb),by obtain ⟨_,_,_,_,_,_,_,rfl,_⟩:=h;simp⟩)
end Go.Proofs.YthcapfojofahkaaGreatDoor
namespace Go.Proofs.YthcapfojofahkaaGreatDoor
open Go.RowKit
def kbT:ByteArray:=⟨#[115,116,97,103,101,32,109,97,105,110,40,105,110,32,114,101,99,118,32,105,110,116,41,32,123,32,116,97,107,101,32,120,32,102,114,111,109,32,105,110,32,123,32,125,32,101,109,105,116,32,120,59,32,125]⟩
def kbL:List Sx.Tr:=[Sx.tG [109,97,105,110] 0 [Sx.tP [105,110] [114,105]] [Sx.tS 11 26 [120] [105,110] [] 0 [] [] [],Sx.tS 3 45 [] [] [] 0 [Sx.tE 2 [120] 0 []] [] []]]
theorem kb_scan:(Tk.scan kbT.data.toList).2.1=0:=by kernel_rfl
theorem kb_len:decide ((Tk.scan kbT.data.toList).1.length≤12000)=true:=by kernel_rfl
theorem kb_at:((Tk.scan kbT.data.toList).1.all fun t=>decide (t.at'≤12000))=true:=by kernel_rfl
theorem kb_read:Bg.prog [3,11] kbT.size (Tk.scan kbT.data.toList).1 5=some kbL:=by kernel_rfl
theorem kb_ok:Bg.okG 20 kbL=true:=by kernel_rfl
theorem kb_nm:Nm 20 kbL:=nG_of (by kernel_rfl)
theorem kb_vt:Kn.vt 20 kbL=(10,1):=by kernel_rfl
theorem kb_blocks:BlC [3,11] 5:=blocks_ok _ (fun f D hD hB=>by
 simp only [List.mem_cons,List.mem_nil_iff,or_false] at hD
 rcases hD with rfl|rfl
 ·exact ⟨by decide,fun _=>plain_3,fun h=>by omega⟩
 ·exact ⟨by decide,fun h=>by omega,fun _=>⟨by decide,nest_ab _ f 11 (.inl rfl) hB⟩⟩) 5
theorem uFlt:Tryz.prog.underlying 30=some (.struct (Tryz.prog.fieldsOf 30)):=by kernel_rfl
theorem heldFlt:Tryz.prog.stoodInHeld 30=false:=by kernel_rfl
theorem eqlF (x y:Int) (w:World):Sem.run Tryz.prog (binOp .eql 30 (.agg #[.int .i64 x,.int .i64 y]) (.agg #[.int .i64 x,.int .i64 y])) w= .ok (.bool true) w:=by
 have u3:=Tryz.underlying3
 have a3:=Tryz.isAgg3
 have z3:=Tryz.sizeOf3
 rw [run_eql_struct,show (10000:Nat)=9999+1 from rfl,run_equalIn_agg w 9999 30 _ _ uFlt heldFlt]
 simp only [Program.fieldsOf,Tryz.underlying30]
 go_simp
theorem neqF (x y:Int) (w:World):Sem.run Tryz.prog (binOp .neq 30 (.agg #[.int .i64 x,.int .i64 y]) (.agg #[.int .i64 x,.int .i64 y])) w= .ok (.bool false) w:=by
 have u3:=Tryz.underlying3
 have a3:=Tryz.isAgg3
 have z3:=Tryz.sizeOf3
 rw [run_neq_struct,show (10000:Nat)=9999+1 from rfl,run_equalIn_agg w 9999 30 _ _ uFlt heldFlt]
 simp only [Program.fieldsOf,Tryz.underlying30]
 go_simp
set_option maxRecDepth 100000 in
set_option maxHeartbeats 1000000 in
theorem kbegun_any (w:World) (hT:Tb w):Calls Tryz.prog 6 #[] w fun e w'=>e= .returned (.bool true)∧Kp [] w w':=by
 have CP:=hide (fun (w:World) (h:Tb w)=>parse_at [3,11] 5 20 kb_blocks kbT (by decide) kb_scan (of_decide_eq_true kb_len) kb_at kb_read kb_ok h.words)
 have HT:=hide hT
 have heq:=eqlF 10 1
 clear hT
 go_enter Tryz.func6,Tryz.ntmps6
 go_wp2_with fail
 refine (CP.out _ HT.out).mono ?_
 rintro e w1 ⟨a,cap,rfl,hSl,hk⟩
 have HC:Hid (∀ w2,Kp [] w1 w2→Calls Tryz.prog 11 #[.agg #[.slice a kbL.length cap]] w2 fun e w'=>e= .returned (.agg #[.int .i64 10,.int .i64 1])∧Kp [] w2 w'):=hide fun w2 h2=>by
  have:=kCheck_any 20 w2 _ kbL a cap ((HT.out.kp hk).kp h2) (GL.keep hSl h2) kb_nm (fun b hb=>Nat.lt_of_lt_of_le hb h2.size) (fun g hg=>by have e:g=kbL.head (by decide):=(by simpa [kbL] using hg);rw [e];decide)
  rw [kb_vt] at this
  exact this
 have HK:=hide hk
 clear hSl hk HT
 go_wp2_with (go_at_call 11;refine (HC.out _ (((Kp.refl [] _).alloc _).alloc _)).mono ?_;rintro e w2 ⟨rfl,hk2⟩;have K2:Hid (Kp [] w1 w2):=hide ((((Kp.refl [] _).alloc _).alloc _).trans hk2);clear hk2)
 go_ret
 exact ⟨rfl,HK.out.trans K2.out⟩
end Go.Proofs.YthcapfojofahkaaGreatDoor
