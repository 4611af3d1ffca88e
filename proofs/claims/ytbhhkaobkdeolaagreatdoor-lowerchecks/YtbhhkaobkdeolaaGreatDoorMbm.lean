import Derived.Test.YtbhhkaobkdeolaaGreatDoorMbl
import Derived.Test.YtbhhkaobkdeolaaGreatDoorMac
import Derived.Test.YtbhhkaobkdeolaaGreatDoorMaa
import Derived.Defers
import Derived.Recover
import Derived.Test.YtbhhkaobkdeolaaGreatDoorMae
import Derived.Test.YtbhhkaobkdeolaaGreatDoorMat
import Derived.Test.YtbhhkaobkdeolaaGreatDoorMbj
namespace Go.Proofs.YtbhhkaobkdeolaaGreatDoor
open Go.RowKit
namespace Bg
def stages (K:List Nat) (e:Nat) (T:List Tk.Tok) (f:Nat):Nat→List Sx.Tr→Nat→Sx.St→Option (List Sx.Tr)
 |0,_,_,_=>none
 |q+1,acc,n,s=>if (T.drop n).isEmpty then some acc else if 10≤acc.length then none else (stage K e T f n s).bind fun r=>stages K e T f q (acc++[r.1]) r.2.1 r.2.2
def prog (K:List Nat) (e:Nat) (T:List Tk.Tok) (f:Nat):Option (List Sx.Tr):=(stage K e T f 0 Sx.s0).bind fun r=>stages K e T f 10 [r.1] r.2.1 r.2.2
end Bg
structure LG (c:Cx) (w w':World) (n:Nat) (s:Sx.St) (v:Value) (acc:List Sx.Tr) (cs:List Value) (k:Nat):Prop where
 rd:RD c w' n s
 kp:Kp [c.rb] w w'
 own:w'.ownsRow (w.heap.size+1) 70 4 v acc.length cs
 rw:Rw (RG w' (fun b=>w.heap.size+1≤b∧some b ≠ v.ownBlock) k) acc cs
 z:SB w' w.heap.size [.slice none 0 0]
theorem LG.go {c:Cx} {w w1 w2:World} {n n2:Nat} {s s2:Sx.St} {v:Value} {acc:List Sx.Tr} {cs:List Value} {k:Nat} (h:LG c w w1 n s v acc cs k) (hr:c.rb<w.heap.size) (hd:RD c w2 n2 s2) (hk:Kp [c.rb] w1 w2):LG c w w2 n2 s2 v acc cs k:=
 ⟨hd,h.kp.trans hk,own_keep h.own hk (by simp;omega),h.rw.mono (fun d cc hd=>hd.keep hk (by simp;omega)),h.z.keep hk (by simp;omega)⟩
theorem own_one (w:World) (B:Nat) (a b c d:Value) (t:TypeId) (hB:B≤w.heap.size):(w.alloc (.cells #[a,b,c,d] t)).ownsRow B t 4 (.slice (some ⟨w.heap.size,0,none⟩) 1 1) 1 [a,b,c,d]:=
 ⟨rfl,.inr ⟨w.heap.size,1,#[a,b,c,d],rfl,hB,heap_alloc_new w _,Nat.le_refl _,by decide,rfl,rfl⟩⟩
set_option maxRecDepth 100000 in
set_option maxHeartbeats 4000000 in
theorem program_ok (K:List Nat) (f:Nat) (hBl:BlC K f) {c:Cx} {w:World} {l:List Sx.Tr} (h:RD c w 0 Sx.s0) (hx:Bg.prog K c.e c.full f=some l):
  Calls Tryz.prog 30 #[.pointer (some ⟨c.rb,0,none⟩)] w fun e w'=> ∃ m a cap,e= .returned (.agg #[.slice a l.length cap])∧Sl (RG w' (fun b=>w.heap.size≤b) m) w' (fun b=>w.heap.size≤b) l (.slice a l.length cap)∧Kp [c.rb] w w':=by
 obtain ⟨i0,hi0,hz0,hz1,hz2⟩:=info_parts Tryz.infoStage
 obtain ⟨⟨d,n1,s1⟩,h1,hx⟩:=obind hx
 have H1:=hide h1
 have HX:=hide hx
 have HH:=hide h
 have HB:=hide h.lt
 have HBl:=hide hBl
 have hr:=h.rlt
 clear h h1 hx hBl
 go_enter Tryz.func30,Tryz.ntmps30
 go_wp2_with fail
 refine (stage_ok K f HBl.out (by exact HH.out.alloc _) H1.out).mono ?_
 rintro e w1 ⟨v1,⟨m1,nm1,at1,a1,x1,y1,a2,x2,y2,rfl,hRG⟩,rfl,hd1,hk1⟩
 have hz:=hk1.size
 simp at hz
 have HL0:Hid (LG c w (w1.alloc (.cells #[.string nm1,.int .i64 at1,.slice a1 x1 y1,.slice a2 x2 y2] 70)) n1 s1 (.slice (some ⟨w1.heap.size,0,none⟩) 1 1) [d] [.string nm1,.int .i64 at1,.slice a1 x1 y1,.slice a2 x2 y2] m1):=by
  refine hide ⟨hd1.alloc _,(((Kp.refl _ _).alloc _).trans hk1).alloc _,own_one _ _ _ _ _ _ _ (by omega),⟨_,[],(List.append_nil _).symm,?_,rfl⟩,((SB.new w _ rfl [.slice none 0 0] 34).keep hk1 (by simp;omega)).keep ((Kp.refl [] _).alloc _) (by simp)⟩
  refine (hRG.base (P':=fun b=>w.heap.size+1≤b∧some b ≠ some w1.heap.size) (fun b h1 h2=> ?_)).keep (S:=[]) ((Kp.refl _ _).alloc _) (by simp)
  simp at h2
  exact ⟨by omega,fun e=>by simp at e;omega⟩
 clear hRG hd1 hk1
 go_wp2
 go_loopw [3] (fun v wr=> ∃ (q n3 k:Nat) (acc:List Sx.Tr) (s3:Sx.St) (cs:List Value) (a:Option Addr) (cap:Nat),v= .slice a acc.length cap∧Hid (Bg.stages K c.e c.full f q acc n3 s3=some l)∧Hid (LG c w wr n3 s3 v acc cs k)) (fun v _=>10 - lenOf v)
 case atStart=>exact ⟨10,n1,m1,[d],s1,_,_,_,rfl,HX.out,HL0.out⟩
 case round=>
  obtain ⟨q,n3,k,acc,s3,cs,av,capv,rfl,HQ,HL⟩:=hrel
  have hsz:=HL.out.kp.size
  match q,HQ with
  |0,HQ=>cases HQ.out
  |q+1,HQ=>
  rcases oif HQ.out with ⟨hov,hp⟩|⟨hov,hp⟩
  ·cases hp
   have HOV:=hide hov
   have z0:=HL.out.z.cs 0 _ rfl
   have zf:=HL.out.z.fz
   clear hov
   go_wp2_with fail
   refine (over_no HOV.out HL.out.rd).mono ?_
   rintro e w4 ⟨rfl,k4,rfl⟩
   go_wp2
   have kz:Kp [w.heap.size] wr ((wr.drewN k4).setCell ⟨w.heap.size,0,none⟩ (.slice av l.length capv)):=Kp.rb ((Kp.refl _ _).drewN _) _ _
   refine bodyPost_ret (v:= .agg #[.slice av l.length capv]) (by simp [results,Tryz.results30,go_sem,z0]) rfl ⟨k,_,_,rfl,?_,Kp.new ((HL.out.kp.mono (by simp)).trans (kz.mono (S':=[w.heap.size,c.rb]) (by simp))) (Nat.le_refl _)⟩
   refine Sl.of_own (B:=w.heap.size+1) (own_keep HL.out.own kz (by simp)) rfl (fun b hb=>by omega) ?_
   exact HL.out.rw.mono (fun d cc hd=>(hd.keep kz (fun k hk hP=>by simp at hk;omega)).base (fun b _ hb=>by omega))
  ·rcases oif hp with ⟨_,hp⟩|⟨h10,hp⟩
   ·cases hp
   obtain ⟨⟨d5,n5,s5⟩,h5,hp⟩:=obind hp
   have HOV:Hid ((c.full.drop n3).isEmpty=false):=hide (by simpa using hov)
   have H5:=hide h5
   have HP5:=hide hp
   have d10:((acc.length:Int) == 10)=false:=by simp;omega
   clear hov h5 hp
   go_wp2_with fail
   refine (over_no HOV.out HL.out.rd).mono ?_
   rintro e w4 ⟨rfl,k4,rfl⟩
   go_wp2_with fail
   refine (stage_ok K f HBl.out (HL.out.rd.drewN _) H5.out).mono ?_
   rintro e w5 ⟨v5,⟨m5,nm5,at5,b1,x1,y1,b2,x2,y2,rfl,hRG⟩,rfl,hd5,hk5⟩
   have HL5:=hide (HL.out.go hr hd5 (((Kp.refl _ _).drewN _).trans hk5))
   have HRG:=hide hRG
   have HOL:=hide (own_lt HL.out.own)
   have hsz5:=hk5.size
   simp at hsz5
   have hl1:=HL.out.z.lt
   clear hd5 hk5 hRG
   go_wp2_with (at_builtin;refine wpList_append_lies _ rfl _ _ 32 rfl (w.heap.size+1) 70 i0 (.agg #[.string ⟨#[]⟩,.int .i64 0,.slice none 0 0,.slice none 0 0]) 4 72 Tryz.underlying32 hi0 hz0 hz1 hz2 rfl (by decide) _ _ _ rfl (by exact HL5.out.own.alloc _) ⟨w5.heap.size,0,none⟩ 1 1 [.string nm5,.int .i64 at5,.slice b1 x1 y1,.slice b2 x2 y2] rfl rfl ?c1 ?c2 ?c3 ?c4 ?c5 ?c6 _ rfl ?_)
   case c1=>exact cells_four_new _ _ rfl _ _ _ _ _
   case c2=>intro u hu;simp at hu;rcases hu with rfl|rfl|rfl|rfl<;> rfl
   case c3=>decide
   case c4=>unfold maxLen;omega
   case c5=>omega
   case c6=>simp;omega
   ·intro g cap w6 hown hgrow hat hlt
    have hblk:=own_blk HL5.out.own
    have hR:Rw (RG (w5.alloc (.cells #[.string nm5,.int .i64 at5,.slice b1 x1 y1,.slice b2 x2 y2] 70)) (fun b=>w.heap.size+1≤b∧some b ≠ Value.ownBlock (.slice av acc.length capv)) (k+m5)) (acc++[d5]) (cs++[.string nm5,.int .i64 at5,.slice b1 x1 y1,.slice b2 x2 y2]):=by
     refine Rw.snoc (HL5.out.rw.mono (fun d cc hd=>(hd.keep (S:=[]) ((Kp.refl _ _).alloc _) (by simp)).more m5)) ?_
     rw [Nat.add_comm k m5]
     refine ((HRG.out.base (P':=fun b=>w.heap.size+1≤b∧some b ≠ Value.ownBlock (.slice av acc.length capv)) (fun b _ hb=> ?_)).keep (S:=[]) ((Kp.refl _ _).alloc _) (by simp)).more k
     simp at hb
     exact ⟨by omega,fun e=>by have:=HOL.out b e;omega⟩
    have HL6:Hid (LG c w w6 n5 s5 (.slice (some ⟨g,0,none⟩) (acc.length+1) cap) (acc++[d5]) (cs++[.string nm5,.int .i64 at5,.slice b1 x1 y1,.slice b2 x2 y2]) (k+m5)):=
     hide ⟨(HL5.out.rd.alloc _).grown hgrow hblk ⟨by have:=HB.out.1;omega,fun hne=>by have:=HB.out.2 hne;omega⟩,(HL5.out.kp.alloc _).grown hgrow (fun k hk=> .inl (by have:=hblk k (by rw [hk];simp);omega)),by rw [List.length_append];exact hown,rows_grow (R:=fun w P d c=>RG w P (k+m5) d c) (fun w w' S P d c h hk hS=>h.keep hk hS) (fun w P P' d c h hP=>h.base hP) hR hgrow (by simpa using hat),(HL5.out.z.keep ((Kp.refl [] _).alloc _) (by simp)).keep (Kp.of_grown hgrow) (fun hm=>by have:=hblk _ hm;omega)⟩
    clear hR hown hgrow hat
    go_wp2
    refine ⟨⟨q,n5,k+m5,acc++[d5],s5,_,some ⟨g,0,none⟩,cap,by simp,HP5.out,HL6.out⟩,?_⟩
    show 10 - (acc.length+1)<10 - acc.length
    omega
end Go.Proofs.YtbhhkaobkdeolaaGreatDoor
namespace Go.Proofs.YtbhhkaobkdeolaaGreatDoor
open Go.RowKit
theorem assert_no (w:World):(Instr.typeAssert .nilIface 20 86 true).run Tryz.prog w= .ok (.tuple #[.agg #[.int .i64 0,.int .i64 0],.bool false]) w:=by kernel_rfl
set_option maxRecDepth 100000 in
set_option maxHeartbeats 1000000 in
theorem catch_idle (p q:Addr) (w:World):
  CallsD Tryz.prog 29 #[.pointer (some p),.pointer (some q)] .returning w fun e u' w'=>e= .returned (.tuple #[])∧u'= .returning∧Kp [] w w':=by
 refine callsD_of_wpS Tryz.func29 rfl fun c₀ cs hu=> ?_
 apply wpS_seq
 apply wpS_region
 have hta:=assert_no
 simp [wpOpsS,go_sem,recoverD,hu,Tryz.ntmps29,Exit.thenS,hta,Array.replicate]
 refine wpS_of_wp ?_
 clear hta
 go_wp2
 refine ⟨rfl,.returning,?_,.tuple #[],by simp [results,Tryz.results29,go_sem],rfl,rfl,(Kp.refl _ _).alloc _⟩
 cases c₀
 simp_all
structure RV (w:World) (ob:Nat) (u:Value):Prop where
 o:SB w ob [u]
 f:SB w (ob+1) [.int .i64 0,.int .i64 0]
theorem RV.keep {w w':World} {S:List Nat} {ob:Nat} {u:Value} (h:RV w ob u) (k:Kp S w w') (h1:ob ∉ S) (h2:ob+1 ∉ S):RV w' ob u:=⟨h.o.keep k h1,h.f.keep k h2⟩
theorem RV.new (w:World) (t t':TypeId):RV ((w.alloc (.cells #[.slice none 0 0] t)).alloc (.cells #[.int .i64 0,.int .i64 0] t')) w.heap.size (.slice none 0 0):=
 ⟨(SB.new w _ rfl [_] _).keep ((Kp.refl [] _).alloc _) (by simp),SB.new (w.alloc (.cells #[.slice none 0 0] t)) _ (by simp) [_,_] _⟩
theorem RV.put {w0 w:World} {ob:Nat} {u:Value} (h:RV w ob u) (v:Value) {P:Nat→Prop} {m:Nat} {l:List Sx.Tr} (hs:Sl (RG w P m) w P l v) (hP: ∀ b,P b→ob+1<b) {S:List Nat} (hk:Kp S w0 w) (hb:w0.heap.size≤ob):
  RV (((w.setCell ⟨ob,0,none⟩ v).setCell ⟨ob+1,0,none⟩ (.int .i64 0)).setCell ⟨ob+1,1,none⟩ (.int .i64 0)) ob v∧Sl (RG (((w.setCell ⟨ob,0,none⟩ v).setCell ⟨ob+1,0,none⟩ (.int .i64 0)).setCell ⟨ob+1,1,none⟩ (.int .i64 0)) P m) (((w.setCell ⟨ob,0,none⟩ v).setCell ⟨ob+1,0,none⟩ (.int .i64 0)).setCell ⟨ob+1,1,none⟩ (.int .i64 0)) P l v∧Kp S w0 (((w.setCell ⟨ob,0,none⟩ v).setCell ⟨ob+1,0,none⟩ (.int .i64 0)).setCell ⟨ob+1,1,none⟩ (.int .i64 0)):=by
 have k:Kp [ob+1,ob] w (((w.setCell ⟨ob,0,none⟩ v).setCell ⟨ob+1,0,none⟩ (.int .i64 0)).setCell ⟨ob+1,1,none⟩ (.int .i64 0)):=Kp.rb (Kp.rb ((Kp.refl _ _).setCell (p:=⟨ob,0,none⟩) (by simp) _) _ _) _ _
 have hS: ∀ j,j ∈ [ob+1,ob]→ ¬ P j:=fun j hj hp=>by have:=hP j hp;simp at hj;omega
 refine ⟨⟨(h.o.set (j:=0) rfl v).keep (Kp.rb (Kp.rb (Kp.refl [ob+1] _) 0 (.int .i64 0)) 1 (.int .i64 0)) (by simp),((h.f.keep (Kp.rb (Kp.refl [ob] w) 0 v) (by simp)).set (j:=0) rfl (.int .i64 0)).set (j:=1) rfl (.int .i64 0)⟩,hs.keep k hS (fun d c h=>h.keep k hS),Kp.nb (Kp.nb (Kp.nb hk hb _ _) (by omega) _ _) (by omega) _ _⟩
def TellP (w:World) (S:List Nat) (l:List Sx.Tr) (e:Ending) (w':World):Prop:= ∃ m a cap,e= .returned (.tuple #[.agg #[.slice a l.length cap],.agg #[.int .i64 0,.int .i64 0]])∧Sl (RG w' (fun b=>w.heap.size≤b) m) w' (fun b=>w.heap.size≤b) l (.slice a l.length cap)∧Kp S w w'
theorem Sl.less {w:World} {m B B':Nat} {l:List Sx.Tr} {v:Value} (h:Sl (RG w (fun b=>B'≤b) m) w (fun b=>B'≤b) l v) (hB:B≤B'):Sl (RG w (fun b=>B≤b) m) w (fun b=>B≤b) l v:=
 h.base (fun b _ hb=>Nat.le_trans hB hb) (fun d c h=>⟨h.base (fun b _ hb=>Nat.le_trans hB hb),by obtain ⟨_,_,_,_,_,_,_,rfl,_⟩:=h;simp⟩)
set_option maxRecDepth 100000 in
set_option maxHeartbeats 2000000 in
theorem read_ok (K:List Nat) (f:Nat) (hBl:BlC K f) {c:Cx} {w:World} {l:List Sx.Tr} (h:RD c w 0 Sx.s0) (hx:Bg.prog K c.e c.full f=some l):
  Calls Tryz.prog 18 #[.pointer (some ⟨c.rb,0,none⟩)] w (TellP w [c.rb] l):=by
 have hmf: ∀ (fn:Fn) (first cap:Array Value) (w:World),(Instr.makeFunc fn first cap).run Tryz.prog w= .ok (.func fn first cap) w:=fun _ _ _ _=>rfl
 have HP:=hide (program_ok K f hBl ((h.alloc (.cells #[.slice none 0 0] 34)).alloc (.cells #[.int .i64 0,.int .i64 0] 28)) hx)
 have hr:=h.rlt
 have HR:=hide (RV.new w 34 28)
 clear h hx hBl
 go_enter_defers Tryz.func18,Tryz.ntmps18
 go_wp2_with fail
 refine HP.out.mono ?_
 rintro e w1 ⟨m,a,cap,rfl,hSl,hk1⟩
 have hz:=hk1.size
 simp at hz
 have hR:=HR.out.keep hk1 (by simp;omega) (by simp;omega)
 have HZ:=hide (hR.put (.slice a l.length cap) hSl (fun b hb=>by simp at hb;omega) ((((Kp.refl [c.rb] w).alloc _).alloc _).trans hk1) (Nat.le_refl _))
 have o0:=hR.o.cs 0 _ rfl
 have oz:=hR.o.fz
 have f0:=hR.f.cs 0 _ rfl
 have f1:=hR.f.cs 1 _ rfl
 have fz:=hR.f.fz
 clear hR hk1 hSl HP HR
 go_wp2
 refine leaves_cons (f:=29) (args:= #[.pointer (some ⟨w.heap.size,0,none⟩),.pointer (some ⟨w.heap.size+1,0,none⟩)]) (by simp) (by simp [go_sem]) ?_
 refine (catch_idle ⟨w.heap.size,0,none⟩ ⟨w.heap.size+1,0,none⟩ _).mono ?_
 rintro e u' w'' ⟨rfl,rfl,hk⟩
 obtain ⟨z1,z2,z3⟩:=HZ.out
 have z4:=z1.keep hk (by simp) (by simp)
 have p0:=z4.o.cs 0 _ rfl
 have g0:=z4.f.cs 0 _ rfl
 have g1:=z4.f.cs 1 _ rfl
 refine ⟨.tuple #[.agg #[.slice a l.length cap],.agg #[.int .i64 0,.int .i64 0]],by simp [results,Tryz.results18,go_sem,p0,g0,g1],m,a,cap,rfl,?_,z3.trans (hk.mono (by simp))⟩
 exact (z2.keep hk (by simp) (fun d c h=>h.keep hk (by simp))).less (by simp;omega)
theorem rd_start {w:World} {B:Nat} {v:Value} {ts:List Tk.Tok} {e:Nat} (h:w.ownsRow B 81 4 v ts.length (tcells ts)) (hl:ts.length≤12000) (he:e≤12000) (hat: ∀ (i:Nat) t,ts[i]? =some t→t.at'≤12000) (hv: ∃ a n cap,v= .slice a n cap):
  ∃ c:Cx,c.rb=w.heap.size∧c.full=ts∧c.e=e∧v= .slice c.a c.full.length c.cap∧RD c (w.alloc (.cells #[v,.int .i64 0,.int .i64 e,.int .i64 0,.int .i64 0,.int .i64 0,.int .i64 0] 62)) 0 Sx.s0:=by
 have hex: ∃ a cap tb,v= .slice a ts.length cap∧(ts ≠ []→a=some ⟨tb,0,none⟩∧tb<w.heap.size)∧ ∀ (i:Nat) t,ts[i]? =some t→w.cell? ⟨tb,i * 4,none⟩=some (.int .i64 t.kind)∧w.cell? ⟨tb,i * 4+1,none⟩=some (.int .i64 (t.at':Int))∧
  w.cell? ⟨tb,i * 4+2,none⟩=some (.string (bs t.text))∧w.cell? ⟨tb,i * 4+3,none⟩=some (.int .i64 t.n):=by
  rcases h.2 with ⟨hv,hn⟩|⟨g,cap,cur,hv,hB,hg,_⟩
  ·have hts:ts=[]:=by cases ts with
    |nil=>rfl
    |cons a r=>simp at hn
   subst hts
   exact ⟨none,0,0,hv,fun h=>absurd rfl h,fun i t hi=>by simp at hi⟩
  ·refine ⟨_,cap,g,hv,fun _=>⟨rfl,?_⟩,fun i t hi=> ?_⟩
   ·rcases Nat.lt_or_ge g w.heap.size with h'|h'
    ·exact h'
    ·rw [Array.getElem?_eq_none h'] at hg;cases hg
   ·obtain ⟨t0,t1,t2,t3⟩:=tcells_at ts i t hi
    have hc:=h.cells (g:=g) (by rw [hv];rfl)
    have c0:=hc _ _ t0
    have c1:=hc _ _ t1
    have c2:=hc _ _ t2
    have c3:=hc _ _ t3
    rw [Addr.add_mid,Nat.zero_add] at c0 c1 c2 c3
    exact ⟨c0,c1,c2,c3⟩
 obtain ⟨a,cap,tb,rfl,hne,htk⟩:=hex
 refine ⟨⟨w.heap.size,tb,cap,a,ts,e⟩,rfl,rfl,rfl,rfl,?_⟩
 have k:Kp [] w (w.alloc (.cells #[.slice a ts.length cap,.int .i64 0,.int .i64 e,.int .i64 0,.int .i64 0,.int .i64 0,.int .i64 0] 62)):=(Kp.refl _ _).alloc _
 exact { hn:=Nat.zero_le _,hm:=hl,he:=he,rlt:=by simp,c0:=by simp [go_sem],c1:=by simp [go_sem],c2:=by simp [go_sem],c3:=by simp [go_sem,Sx.s0],c4:=by simp [go_sem,Sx.s0],c5:=by simp [go_sem,Sx.s0],c6:=by simp [go_sem,Sx.s0],b3:=by simp [Sx.s0],b4:=by simp [Sx.s0],b5:=by simp [Sx.s0],b6:=by simp only [Sx.s0];omega,fz:=fun o=>by simp [go_sem],ne:=fun h=>⟨(hne h).1,by have:=(hne h).2;simp only;omega⟩,tk:=fun i t hi=>match htk i t hi with|⟨c0,c1,c2,c3⟩=>⟨k.some c0 (by simp),k.some c1 (by simp),k.some c2 (by simp),k.some c3 (by simp),hat i t hi⟩ }
set_option maxRecDepth 100000 in
set_option maxHeartbeats 2000000 in
theorem parse_ok (K:List Nat) (f:Nat) (hBl:BlC K f) {s:ByteArray} {w:World} {T:List Tk.Tok} {pp:Int} {l:List Sx.Tr} (hw:WTab w) (hs:s.size≤12000) (hT:Tk.scan s.data.toList=(T,0,pp)) (hl:T.length≤12000) (hat: ∀ (i:Nat) t,T[i]? =some t→t.at'≤12000) (hx:Bg.prog K s.size T f=some l):
  Calls Tryz.prog 9 #[.string s] w (TellP w [] l):=by
 have HSC:=hide (scan_in s ((w.alloc (.cells #[.slice none 0 0] 34)).alloc (.cells #[.int .i64 0,.int .i64 0] 28)) (hw.below (((Below.refl _ _).alloc (Nat.le_refl _) _).alloc (by simp) _)) hs)
 rw [hT] at HSC
 unfold scanV at HSC
 have HR:=hide (RV.new w 34 28)
 have HB:=hide hBl
 have HX:=hide hx
 have HA:=hide hat
 clear hx hat hBl hT hw
 go_enter Tryz.func9,Tryz.ntmps9
 go_wp2_with fail
 refine HSC.out.mono ?_
 rintro e w1 ⟨v,rfl,hown,hb1⟩
 have hvs: ∃ a n cap,v= .slice a n cap:=by
  rcases hown.2 with ⟨hv,_⟩|⟨g,cap,cur,hv,_⟩
  ·exact ⟨_,_,_,hv⟩
  ·exact ⟨_,_,_,hv⟩
 obtain ⟨c,hrb,hfu,he,hv,hrd⟩:=rd_start (e:=s.size) (hown.alloc (.cells #[.int .i64 0,.int .i64 pp] 28)) hl hs HA.out hvs
 have hrb':c.rb=w1.heap.size+1:=by rw [hrb];simp
 have HRD:=hide (read_ok K f HB.out (l:=l) hrd (by rw [hfu,he];exact HX.out))
 have hz1:=hb1.size
 simp at hz1
 have HR1:=hide (HR.out.keep (Kp.of_below (S:=[]) hb1) (by simp) (by simp))
 have K1:Hid (Kp [] w w1):=(((Kp.refl _ _).alloc _).alloc _).trans (Kp.of_below hb1)
 obtain ⟨av,nv,cv,rfl⟩:=hvs
 rw [hrb'] at HRD
 clear hown hb1 hrb hrd hv
 have hq1:w.heap.size<w1.heap.size:=by omega
 have hq2:w.heap.size+1<w1.heap.size:=by omega
 go_wp2_with fail
 refine HRD.out.mono ?_
 rintro e w2 ⟨m,a,cap,rfl,hSl,hk⟩
 have k2:Kp [w1.heap.size+1] w1 w2:=(((Kp.refl _ _).alloc _).alloc _).trans hk
 have hR:=HR1.out.keep k2 (by simp;omega) (by simp;omega)
 have HZ:=hide (hR.put (.slice a l.length cap) hSl (fun b hb=>by simp at hb;omega) (Kp.new (b:=w1.heap.size+1) ((K1.out.mono (by simp)).trans k2) (by omega)) (Nat.le_refl _))
 have o0:=hR.o.cs 0 _ rfl
 have oz:=hR.o.fz
 have f0:=hR.f.cs 0 _ rfl
 have f1:=hR.f.cs 1 _ rfl
 have fz:=hR.f.fz
 clear hR hk k2 hSl
 go_wp2
 obtain ⟨z1,z2,z3⟩:=HZ.out
 have p0:=z1.o.cs 0 _ rfl
 have g0:=z1.f.cs 0 _ rfl
 have g1:=z1.f.cs 1 _ rfl
 exact bodyPost_ret (v:= .tuple #[.agg #[.slice a l.length cap],.agg #[.int .i64 0,.int .i64 0]]) (by simp [results,Tryz.results9,go_sem,p0,g0,g1]) rfl ⟨m,a,cap,rfl,z2.less (by simp;omega),z3⟩
end Go.Proofs.YtbhhkaobkdeolaaGreatDoor
namespace Go.Proofs.YtbhhkaobkdeolaaGreatDoor
open Go.RowKit
namespace Bg
def okE:Nat→List Sx.Tr→Bool
 |0,_=>false
 |n+1,l=>l.all fun d=>okE n (Sx.eL d)
def okS:Nat→List Sx.Tr→Bool
 |0,_=>false
 |n+1,l=>l.all fun d=>okE n (Sx.sE d) && okS n (Sx.sB d) && okS n (Sx.sO d)
def okG (n:Nat) (l:List Sx.Tr):Bool:=l.all fun g=>okS n (Sx.gB g)
end Bg
theorem Rw.mem {R R':Sx.Tr→List Value→Prop} {l:List Sx.Tr} {cs:List Value} (h:Rw R l cs) (hR: ∀ d c,d ∈ l→R d c→R' d c):Rw R' l cs:=by
 induction l generalizing cs with
 |nil=>exact h
 |cons d r ih=>
  obtain ⟨c1,c2,h1,h2,h3⟩:=h
  exact ⟨c1,c2,h1,hR _ _ (by simp) h2,ih h3 (fun d c hd=>hR d c (by simp [hd]))⟩
theorem Sl.mem {R R':Sx.Tr→List Value→Prop} {w:World} {P:Nat→Prop} {l:List Sx.Tr} {v:Value} (h:Sl R w P l v) (hR: ∀ d c,d ∈ l→R d c→R' d c):Sl R' w P l v:=by
 obtain ⟨a,cap,hv,h⟩:=h
 refine ⟨a,cap,hv,h.imp id ?_⟩
 rintro ⟨b,off,cs,ha,hb,hr,hc⟩
 exact ⟨b,off,cs,ha,hb,hr.mem hR,hc⟩
theorem EL.level {w:World} {P:Nat→Prop}: ∀ (n:Nat) {m:Nat} {l:List Sx.Tr} {v:Value},EL w P m l v→Bg.okE n l=true→EL w P n l v
 |0,_,_,_,_,hk=>by cases hk
 |n+1,0,_,_,h,_=>by cases h
 |n+1,m+1,l,v,h,hk=>by
  obtain ⟨a,cap,hv,h⟩:=h
  refine ⟨a,cap,hv,h.imp id ?_⟩
  rintro ⟨b,off,ha,hb,hc⟩
  refine ⟨b,off,ha,hb,fun i d hd=> ?_⟩
  obtain ⟨op,nm,k,L,u,h1,h2,h3,h4,h5,h6⟩:=hc i d hd
  refine ⟨op,nm,k,L,u,h1,h2,h3,h4,h5,EL.level n h6 ?_⟩
  have:=List.all_eq_true.1 hk d (List.mem_of_getElem? hd)
  rw [h1] at this
  exact this
theorem SL.level {w:World} {P:Nat→Prop}: ∀ (n:Nat) {m:Nat} {l:List Sx.Tr} {v:Value},SL w P m l v→Bg.okS n l=true→SL w P n l v
 |0,_,_,_,_,hk=>by cases hk
 |n+1,0,_,_,h,_=>by cases h
 |n+1,m+1,l,v,h,hk=>by
  rw [SL_succ] at h ⊢
  refine h.mem ?_
  rintro d c hd ⟨D,at',A,B,T,N,E,body,els,uE,uB,uL,rfl,h2,h3,h4,h5⟩
  have h6:=List.all_eq_true.1 hk _ hd
  rw [Bool.and_eq_true,Bool.and_eq_true] at h6
  exact ⟨D,at',A,B,T,N,E,body,els,uE,uB,uL,rfl,h2,EL.level n h3 h6.1.1,SL.level n h4 h6.1.2,SL.level n h5 h6.2⟩
theorem GL.level {w:World} {P:Nat→Prop} (n:Nat) {m:Nat} {l:List Sx.Tr} {v:Value} (h:Sl (RG w P m) w P l v) (hk:Bg.okG n l=true):Sl (RG w P n) w P l v:=by
 refine h.mem ?_
 rintro d c hd ⟨nm,at',ps,body,uP,uB,rfl,h2,h3,h4⟩
 exact ⟨nm,at',ps,body,uP,uB,rfl,h2,h3,SL.level n h4 (List.all_eq_true.1 hk _ hd)⟩
theorem toks_at {T:List Tk.Tok} (h:(T.all fun t=>decide (t.at'≤12000))=true): ∀ (i:Nat) t,T[i]? =some t→t.at'≤12000:=fun i t hi=>by
 simpa using List.all_eq_true.1 h t (List.mem_of_getElem? hi)
theorem parse_at (K:List Nat) (f n:Nat) (hBl:BlC K f) (s:ByteArray) {l:List Sx.Tr} (hs:s.size≤12000) (h0:(Tk.scan s.data.toList).2.1=0) (hl:(Tk.scan s.data.toList).1.length≤12000) (hat:((Tk.scan s.data.toList).1.all fun t=>decide (t.at'≤12000))=true) (hx:Bg.prog K s.size (Tk.scan s.data.toList).1 f=some l) (hk:Bg.okG n l=true) {w:World} (hw:WTab w):
  Calls Tryz.prog 9 #[.string s] w fun e w'=> ∃ a cap,e= .returned (.tuple #[.agg #[.slice a l.length cap],.agg #[.int .i64 0,.int .i64 0]])∧Sl (RG w' (fun b=>b<w'.heap.size) n) w' (fun b=>b<w'.heap.size) l (.slice a l.length cap)∧Kp [] w w':=by
 refine (parse_ok K f hBl hw hs (pp:=(Tk.scan s.data.toList).2.2) (by rw [←h0]) hl (toks_at hat) hx).mono ?_
 rintro e w' ⟨m,a,cap,rfl,hS,hk'⟩
 refine ⟨a,cap,rfl,?_,hk'⟩
 exact (GL.level n hS hk).base (fun b hb _=>hb) (fun d c h=>⟨h.base (fun b hb _=>hb),by obtain ⟨_,_,_,_,_,_,_,rfl,_⟩:=h;simp⟩)
end Go.Proofs.YtbhhkaobkdeolaaGreatDoor
namespace Go.Proofs.YtbhhkaobkdeolaaGreatDoor
open Go.RowKit
def Lw.named (R:List (List Kn.Nv)):List (List Lw.Vr):=R.map fun x=>x.map fun v=>(bs v.1,bs v.2)
theorem Lw.named_at {R:List (List Kn.Nv)} {k:Nat} {y:List Lw.Vr} (h:(Lw.named R)[k]? =some y): ∃ x,R[k]? =some x∧y=x.map fun v=>(bs v.1,bs v.2):=by
 unfold Lw.named at h
 rw [List.getElem?_map] at h
 cases hx:R[k]? with
 |none=>rw [hx] at h;cases h
 |some x=>rw [hx] at h;cases h;exact ⟨x,rfl,rfl⟩
theorem vcl_named (x:List Kn.Nv):(x.map fun v=>((bs v.1,bs v.2):Lw.Vr)).flatMap Cd.vcl=vcells x:=by
 induction x with
 |nil=>rfl
 |cons v r ih=>
  show Cd.vcl (bs v.1,bs v.2)++(r.map fun v=>((bs v.1,bs v.2):Lw.Vr)).flatMap Cd.vcl=_
  rw [ih]
  rfl
theorem ownsRow_base {w:World} {B B' t z n:Nat} {v:Value} {xs:List Value} (h:w.ownsRow B t z v n xs) (hB:B'≤B):w.ownsRow B' t z v n xs:=
 ⟨h.1,h.2.imp id (fun ⟨g,cap,cur,hv,hb,r⟩=>⟨g,cap,cur,hv,Nat.le_trans hB hb,r⟩)⟩
theorem us_at {AV:List (Option Addr × Nat)} {R:List (List Kn.Nv)} {k:Nat} {x:List Kn.Nv} {a:Option Addr × Nat} (hx:R[k]? =some x) (ha:AV[k]? =some a):(Kc.us AV R)[k]? =some (.slice a.1 x.length a.2):=by
 unfold Kc.us
 rw [List.getElem?_map,(List.getElem?_zip_eq_some (z:=(a,x))).2 ⟨ha,hx⟩]
 rfl
theorem vo_of {w:World} {B g ma:Nat} {av:Option Addr} {cv:Nat} {R:List (List Kn.Nv)} {AV:List (Option Addr × Nat)} (hR:R ≠ []) (h1:w.ownsRow (g+1) 39 1 (.slice av R.length cv) R.length (Kc.us AV R)) (h2:RO B g ma w (.slice av R.length cv) R AV) (hB:B≤g):
  ∃ gv,av=some ⟨gv,0,none⟩∧VO w B gv 0 (Lw.named R) AV:=by
 rcases h1.2 with ⟨hv,h0⟩|⟨gv,cap,cur,hv,hb,_⟩
 ·exact absurd (List.length_eq_zero_iff.1 h0) hR
 obtain ⟨rfl,-⟩:av=some ⟨gv,0,none⟩∧cv=cap:=by simpa using hv
 refine ⟨gv,rfl,by rw [h2.ln];simp [Lw.named],by omega,fun k y a hy ha=> ?_,fun k k2 a a2 hne ha ha2 j hj hj2=> ?_⟩
 ·obtain ⟨x,hx,rfl⟩:=Lw.named_at hy
  obtain ⟨q1,q2⟩:=h2.at' k x a hx ha
  rw [List.length_map,vcl_named]
  refine ⟨?_,ownsRow_base q1 (Nat.zero_le _),fun j hj=> ?_⟩
  ·have:=h1.cells (g:=gv) rfl k _ (us_at hx ha)
   rwa [Addr.add_mid] at this
  ·obtain ⟨q3,-,q5⟩:=q2 j (by rw [ob_own];exact hj)
   exact ⟨q3,fun e=>q5 (by rw [e];rfl)⟩
 ·have l1:k<R.length:=by rw [←h2.ln];exact (List.getElem?_eq_some_iff.1 ha).1
  have l2:k2<R.length:=by rw [←h2.ln];exact (List.getElem?_eq_some_iff.1 ha2).1
  exact h2.ap k k2 _ _ a a2 hne (List.getElem?_eq_getElem l1) (List.getElem?_eq_getElem l2) ha ha2 j (by rw [ob_own];exact hj) (by rw [ob_own];exact hj2)
theorem lower_at (n:Nat) {w:World} (l:List Sx.Tr) (a:Option Addr) (cap:Nat) (hL:Sl (RG w (fun b=>b<w.heap.size) (n+1)) w (fun b=>b<w.heap.size) l (.slice a l.length cap)) (hll:l.length≤1000000) (R:List (List Kn.Nv)) (hR:R ≠ []) (hlo:R.length=l.length) (hx:Kc.vars (n+1) l=some R)
  (hC: ∀ w1,Kp [] w w1→Calls Tryz.prog 31 #[.agg #[.slice a l.length cap]] w1 fun e w2=>e= .returned (.agg #[.int .i64 0,.int .i64 0])∧Kp [] w1 w2) (PR:List Cd.Pr) (hs:Lw.lowerGo n [] l (Lw.named R)=some PR):
  Calls Tryz.prog 10 #[.agg #[.slice a l.length cap]] w fun e w'=> ∃ ap cp,e= .returned (.tuple #[.agg #[.slice ap PR.length cp,.int .i64 (Lw.mainI 0 0 l)],.agg #[.int .i64 0,.int .i64 0]])∧CoR w' (.slice ap PR.length cp) PR∧Below w.heap.size w w':=by
 refine lower_any n (fun b=>b<w.heap.size) (fun _ h=>h) l a cap hL hll (Lw.named R) (by simp [Lw.named,hlo]) (fun w1 hb=> ?_) PR hs
 have k1:Kp [] w w1:=Kp.of_below hb
 refine (kVars_ok (n+1) w1 (fun b=>b<w.heap.size) l a cap (hL.keep k1 (by simp) (fun d c h=>h.keep k1 (by simp))) (fun b hb=>Nat.lt_of_lt_of_le hb k1.size) R hx (fun w2 hk=>hC w2 (k1.trans hk))).mono ?_
 rintro e w' ⟨av,cv,AV,g,ma,rfl,h1,h2,hg,hk⟩
 obtain ⟨gv,rfl,hv⟩:=vo_of hR h1 h2 hg
 exact ⟨_,cv,gv,0,AV,by simp [Lw.named],fun _=>rfl,hv,hk.below⟩
end Go.Proofs.YtbhhkaobkdeolaaGreatDoor
namespace Go.Proofs.YtbhhkaobkdeolaaGreatDoor
open Go.RowKit
def lbT:ByteArray:=⟨#[115,116,97,103,101,32,109,97,105,110,40,105,110,32,114,101,99,118,32,105,110,116,41,32,123,32,102,111,114,32,120,32,102,114,111,109,32,105,110,32,123,32,101,109,105,116,32,120,59,32,125,32,100,114,97,105,110,32,105,110,59,32,125]⟩
def lbL:List Sx.Tr:=[Sx.tG [109,97,105,110] 0 [Sx.tP [105,110] [114,105]] [
 Sx.tS 12 26 [120] [105,110] [] 0 [] [Sx.tS 3 42 [] [] [] 0 [Sx.tE 2 [120] 0 []] [] []] [],Sx.tS 9 52 [105,110] [] [] 0 [] [] []]]
def lbR:List (List Kn.Nv):=[[([105,110],[114,105]),([120],[105])]]
theorem lb_scan:(Tk.scan lbT.data.toList).2.1=0:=by kernel_rfl
theorem lb_len:decide ((Tk.scan lbT.data.toList).1.length≤12000)=true:=by kernel_rfl
theorem lb_at:((Tk.scan lbT.data.toList).1.all fun t=>decide (t.at'≤12000))=true:=by kernel_rfl
theorem lb_read:Bg.prog [3,9,12] lbT.size (Tk.scan lbT.data.toList).1 5=some lbL:=by kernel_rfl
theorem lb_ok:Bg.okG 8 lbL=true:=by kernel_rfl
theorem lb_vars:Kc.vars 8 lbL=some lbR:=by kernel_rfl
theorem lb_told:Rn.told 8 lbL=(0,0):=by kernel_rfl
def lbPR:List Cd.Pr:=(Lw.lowerGo 7 [] lbL (Lw.named lbR)).getD []
theorem lb_low:(Lw.lowerGo 7 [] lbL (Lw.named lbR)).isSome=true:=by kernel_rfl
theorem lb_one:lbPR.length=1:=by kernel_rfl
theorem lb_some:Lw.lowerGo 7 [] lbL (Lw.named lbR)=some lbPR:=by
 have h:=lb_low
 unfold lbPR
 cases hx:Lw.lowerGo 7 [] lbL (Lw.named lbR) with
 |none=>rw [hx] at h;cases h
 |some y=>rfl
def lbP:Cd.Pr:=lbPR.headD ⟨⟨#[]⟩,[],0,[],[]⟩
theorem lb_is:lbPR=[lbP]:=by
 have h:=lb_one
 unfold lbP
 match lbPR,h with
 |[x],_=>rfl
theorem lb_ins:lbP.ins.length=6:=by kernel_rfl
theorem lb_to:(lbP.ins[0]?.map (·.to))=some 3:=by kernel_rfl
end Go.Proofs.YtbhhkaobkdeolaaGreatDoor
