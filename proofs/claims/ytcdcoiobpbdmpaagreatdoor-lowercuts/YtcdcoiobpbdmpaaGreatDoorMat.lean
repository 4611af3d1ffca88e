import Derived.Test.YtcdcoiobpbdmpaaGreatDoorMas
import Derived.Test.YtcdcoiobpbdmpaaGreatDoorMar
namespace Go.Proofs.YtcdcoiobpbdmpaaGreatDoor
open Go.RowKit
def Lw.mainI:Int→Nat→List Sx.Tr→Int
 |m,_,[]=>m
 |m,i,g::r=>Lw.mainI (if Sx.gN g=[109,97,105,110] then (i:Int) else m) (i+1) r
def CoR (w:World) (v:Value) (PR:List Cd.Pr):Prop:=
 ∃ a c,v= .slice a PR.length c∧(PR ≠ []→ ∃ g o,a=some ⟨g,o,none⟩∧ ∀ (k:Nat) p,PR[k]? =some p→ ∃ q:PV,(∀ (j:Nat) u,(q.cl p)[j]? =some u→w.cell? ⟨g,o+k * 5+j,none⟩=some u)∧PC q p w)
theorem LI.code {cb:Nat} {F:Nat→Prop} {pr:List Cd.Pr} {main:Int} {ap:Option Addr} {cp:Nat} {w:World} (h:LI cb F pr main ap cp w):CoR w (.slice ap pr.length cp) pr:=by
 obtain ⟨qs,h1,h2,h3⟩:=h.ow
 refine ⟨ap,cp,rfl,fun hn=> ?_⟩
 rcases h2.2 with ⟨_,h0⟩|⟨g,cap,cur,hv,_⟩
 ·exact absurd (List.length_eq_zero_iff.1 h0) hn
 obtain ⟨h4,-⟩:ap=some ⟨g,0,none⟩∧cp=cap:=by simpa using hv
 refine ⟨g,0,h4,fun k p hp=> ?_⟩
 have hk:=(List.getElem?_eq_some_iff.1 hp).1
 obtain ⟨q,hq⟩: ∃ q,qs[k]? =some q:=⟨_,List.getElem?_eq_getElem (by omega)⟩
 have hz:(List.zipWith PV.cl qs pr)[k]? =some (q.cl p):=by rw [List.getElem?_zipWith,hq,hp]
 have hlen: ∀ c ∈ List.zipWith PV.cl qs pr,c.length=5:=by
  intro c hc
  obtain ⟨j,hj,he⟩:=List.mem_iff_getElem.1 hc
  rw [←he,List.getElem_zipWith];rfl
 have hc:=h2.cells (g:=g) (by rw [h4];rfl)
 refine ⟨q,fun j u hu=> ?_,(h3 k q p hq hp).pc⟩
 have:=hc (k * 5+j) u (flatten_cell _ hlen k _ hz j u hu)
 rw [add_off] at this
 simpa [Nat.add_assoc] using this
theorem own_uniq {w:World} {B t z:Nat} {v:Value} {n:Nat} {xs ys:List Value} (h:w.ownsRow B t z v n xs) (k:w.ownsRow B t z v n ys):xs=ys:=by
 rcases h.2 with ⟨h1,h2⟩|⟨g,cap,cur,h1,h2,h3,h4,h5,h6,h7⟩
 ·have a:=h.1
  have b:=k.1
  rw [h2,Nat.zero_mul] at a b
  rw [List.length_eq_zero_iff.1 a,List.length_eq_zero_iff.1 b]
 ·rcases k.2 with ⟨k1,_⟩|⟨g2,cap2,cur2,k1,k2,k3,k4,k5,k6,k7⟩
  ·rw [h1] at k1;simp at k1
  ·have e:=h1.symm.trans k1
   obtain ⟨rfl,rfl⟩:g=g2∧cap=cap2:=by simpa using e
   rw [h3] at k3
   obtain rfl:cur=cur2:=by simpa using k3
   rw [←h7,←k7]
theorem Tryz.infoProc:(Tryz.prog.info? 39).map (fun i=>(i.zero,i.size,i.bytes))=some (some (.agg #[.string ⟨#[]⟩,.slice none 0 0,.int .i64 0,.slice none 0 0,.slice none 0 0]),5,96):=by kernel_rfl
theorem main_beq (c:List UInt8):((bs c).toList == [109,97,105,110])=decide (c=[109,97,105,110]):=by
 have h:(bs c).toList=c:=by rw [Lib.toList_data];simp [bs]
 rw [h]
 by_cases e:c=[109,97,105,110]
 ·simp [e]
 ·simp [e]
theorem LI.stage {cb:Nat} {F F':Nat→Prop} {pr:List Cd.Pr} {main:Int} {ap:Option Addr} {cp:Nat} {w2 w3:World} {q:PV} {p:Cd.Pr} {av:Option Addr} (h:LI cb F pr main ap cp w2) (hk:Kx (fun j=>ob av ≠ some j) w2 w3) (hq:PCx w3 (fun j=>(w2.heap.size≤j∧j<w3.heap.size)∨ob av=some j) q p) (hav: ∀ j,ob av=some j→F j∧ ¬ F' j) (hF: ∀ j,F' j→F j) (hFc: ∀ j,F j→j<cb):
  LI cb F' pr main ap cp w3∧PCx w3 (fun j=>j<w3.heap.size∧j ≠ cb∧ob ap ≠ some j∧ ¬ F' j) q p:=by
 have hnF: ¬ F cb∧ ∀ j,ob ap=some j→ ¬ F j:=⟨fun e=>Nat.lt_irrefl _ (hFc cb e),fun j hj e=>by have h1:=(h.apl j hj).1;have h2:=hFc j e;omega⟩
 refine ⟨(h.keep (hk.mono (fun j _ hj e=>hj (hav j e).1)) hnF).less hF,hq.up (Kx.refl _ _) (fun j hj=> ?_)⟩
 have hcl:=h.lt
 rcases hj with hj|hj
 ·refine ⟨hj.2,by omega,fun e=> ?_,fun e=> ?_⟩
  ·have:=(h.apl j e).2;omega
  ·have:=hFc j (hF j e);omega
 ·have h1:=hFc j (hav j hj).1
  refine ⟨Nat.lt_of_lt_of_le (Nat.lt_trans h1 hcl) hk.size,by omega,fun e=> ?_,(hav j hj).2⟩
  have:=(h.apl j e).1;omega
theorem five_at (w:World) (v0 v1 v2 v3 v4:Value) (t:TypeId) (j:Nat) (u:Value) (hj:[v0,v1,v2,v3,v4][j]? =some u):(w.alloc (.cells #[v0,v1,v2,v3,v4] t)).cell? ⟨w.heap.size,j,none⟩=some u:=by
 match j,hj with
 |0,hj=>simp at hj;subst hj;simp [go_sem]
 |1,hj=>simp at hj;subst hj;simp [go_sem]
 |2,hj=>simp at hj;subst hj;simp [go_sem]
 |3,hj=>simp at hj;subst hj;simp [go_sem]
 |4,hj=>simp at hj;subst hj;simp [go_sem]
theorem LI.cap {cb:Nat} {F:Nat→Prop} {pr:List Cd.Pr} {main:Int} {ap:Option Addr} {cp:Nat} {w:World} (h:LI cb F pr main ap cp w):pr.length≤cp:=by
 obtain ⟨qs,_,h2,_⟩:=h.ow
 rcases h2.2 with ⟨hv,h0⟩|⟨g,cap,cur,hv,hb,hg,hnc,_⟩
 ·omega
 ·obtain ⟨-,rfl⟩:ap=some ⟨g,0,none⟩∧cp=cap:=by simpa using hv
  omega
set_option maxRecDepth 100000 in
set_option maxHeartbeats 4000000 in
theorem lower_any (n:Nat) {w:World} (P:Nat→Prop) (hP: ∀ j,P j→j<w.heap.size) (l:List Sx.Tr) (a:Option Addr) (cap:Nat) (hL:Sl (RG w P (n+1)) w P l (.slice a l.length cap)) (hll:l.length≤1000000) (out:List (List Lw.Vr)) (hlo:out.length=l.length)
  (hV: ∀ w1 (_:Below w.heap.size w w1),Calls Tryz.prog 13 #[.agg #[.slice a l.length cap]] w1 fun e w'=> ∃ av cv gv ov AV,e= .returned (.tuple #[.slice av out.length cv,.agg #[.int .i64 0,.int .i64 0]])∧(out ≠ []→av=some ⟨gv,ov,none⟩)∧VO w' w1.heap.size gv ov out AV∧Below w1.heap.size w1 w')
  (PR:List Cd.Pr) (hs:Lw.lowerGo n [] l out=some PR):
  Calls Tryz.prog 7 #[.agg #[.slice a l.length cap]] w fun e w'=> ∃ ap cp,e= .returned (.tuple #[.agg #[.slice ap PR.length cp,.int .i64 (Lw.mainI 0 0 l)],.agg #[.int .i64 0,.int .i64 0]])∧CoR w' (.slice ap PR.length cp) PR∧Below w.heap.size w w'∧PR.length≤cp:=by
 obtain ⟨i0,hi0,hz0,hz1,hz2⟩:=info_parts Tryz.infoProc
 have HP:=hide hP
 have HL:=hide hL
 have HSS:=hide hs
 have hb0:Below w.heap.size w (((w.alloc (.cells #[.slice a l.length cap] 24)).alloc (.cells #[.slice none 0 0,.int .i64 0] 29)).alloc (.cells #[.int .i64 0,.int .i64 0] 31)):=(((Below.refl _ _).alloc (Nat.le_refl _) _).alloc (by simp) _).alloc (by simp;omega) _
 have CV:=hide (hV _ hb0)
 have HB0:=hide hb0
 have HJ0:Hid (∀ w',Below (((w.alloc (.cells #[.slice a l.length cap] 24)).alloc (.cells #[.slice none 0 0,.int .i64 0] 29)).alloc (.cells #[.int .i64 0,.int .i64 0] 31)).heap.size (((w.alloc (.cells #[.slice a l.length cap] 24)).alloc (.cells #[.slice none 0 0,.int .i64 0] 29)).alloc (.cells #[.int .i64 0,.int .i64 0] 31)) w'→w'.cell? ⟨w.heap.size,0,none⟩=some (.slice a l.length cap)∧w'.cell? ⟨w.heap.size+1,0,none⟩=some (.slice none 0 0)∧w'.cell? ⟨w.heap.size+1,1,none⟩=some (.int .i64 0)∧w'.cell? ⟨w.heap.size+1+1,0,none⟩=some (.int .i64 0)∧w'.cell? ⟨w.heap.size+1+1,1,none⟩=some (.int .i64 0)∧(∀ k,w'.frozen? ⟨w.heap.size+1,k,none⟩=false)∧ ∀ k,w'.frozen? ⟨w.heap.size+1+1,k,none⟩=false):=hide (fun w' hb=>⟨bsome hb (by simp [go_sem]),bsome hb (by simp [go_sem]),bsome hb (by simp [go_sem]),bsome hb (by simp [go_sem]),bsome hb (by simp [go_sem]),fun k=>(World.frozen?_of_block (a:=⟨w.heap.size+1,k,none⟩) (hb.block (w.heap.size+1) (by simp))).trans (by simp [go_sem]),fun k=>(World.frozen?_of_block (a:=⟨w.heap.size+1+1,k,none⟩) (hb.block (w.heap.size+1+1) (by simp))).trans (by simp [go_sem])⟩)
 clear hP hL hV hs hb0
 go_enter Tryz.func7,Tryz.ntmps7
 go_wp2_with fail
 refine CV.out.mono ?_
 rintro e w1 ⟨av,cv,gv,ov,AV,rfl,hav,hvo,hb1⟩
 obtain ⟨z0,z1,z2,z3,z4,zf1,zf2⟩:=HJ0.out w1 hb1
 have hw3:(((w.alloc (.cells #[.slice a l.length cap] 24)).alloc (.cells #[.slice none 0 0,.int .i64 0] 29)).alloc (.cells #[.int .i64 0,.int .i64 0] 31)).heap.size=w.heap.size+3:=by simp
 rw [hw3] at hvo hb1
 have hs1:w.heap.size+3≤w1.heap.size:=by have:=hb1.size;rw [hw3] at this;exact this
 have HB1:Hid (Below w.heap.size w w1):=hide (HB0.out.trans (hb1.mono (by omega)))
 have HVO:=hide hvo
 have HAV:=hide hav
 have HLO:=hide hlo
 have HFC:Hid (∀ j,(∃ k b,0≤k∧AV[k]? =some b∧ob b.1=some j)→w.heap.size+3≤j∧j<w1.heap.size):=hide (by
  rintro j ⟨k,b,-,hk,hj⟩
  have hkl:=(List.getElem?_eq_some_iff.1 hk).1
  obtain ⟨x,hx⟩: ∃ x,out[k]? =some x:=⟨_,List.getElem?_eq_getElem (by rw [←hvo.ln];exact hkl)⟩
  obtain ⟨-,h2,h3⟩:=hvo.at' k x b hx hk
  exact ⟨(h3 j hj).1,(h2.lt j (by rw [ob_own];exact hj)).2⟩)
 have hbb:Below w1.heap.size w1 ((w1.alloc (.cells #[.int .i64 0,.int .i64 0] 31)).alloc (.cells #[.slice none 0 0,.int .i64 0] 29)):=((Below.refl _ _).alloc (Nat.le_refl _) _).alloc (by simp) _
 have zb0:=bsome hbb z0
 have HLI:Hid (LI (w1.heap.size+1) (fun j=>j<w.heap.size+3∨ ∃ k b,0≤k∧AV[k]? =some b∧ob b.1=some j) [] 0 none 0 ((w1.alloc (.cells #[.int .i64 0,.int .i64 0] 31)).alloc (.cells #[.slice none 0 0,.int .i64 0] 29))):=hide ⟨by simp [go_sem],by simp [go_sem],fun k=>by simp [go_sem],[],rfl,World.ownsRow_nil _ _ _ _,fun k q p hq _=>by simp at hq⟩
 have HKB:Hid (Kx (fun j=>j<w1.heap.size∧ ∀ k b,k<0→AV[k]? =some b→ob b.1 ≠ some j) w1 ((w1.alloc (.cells #[.int .i64 0,.int .i64 0] 31)).alloc (.cells #[.slice none 0 0,.int .i64 0] 29))):=hide (Kx.of_below hbb)
 have HR1:Hid (∀ w':World,(∀ j,j=w.heap.size+1∨j=w.heap.size+1+1→w'.heap[j]? =w1.heap[j]?)→w'.cell? ⟨w.heap.size+1,0,none⟩=some (.slice none 0 0)∧w'.cell? ⟨w.heap.size+1,1,none⟩=some (.int .i64 0)∧w'.cell? ⟨w.heap.size+1+1,0,none⟩=some (.int .i64 0)∧w'.cell? ⟨w.heap.size+1+1,1,none⟩=some (.int .i64 0)∧(∀ k,w'.frozen? ⟨w.heap.size+1,k,none⟩=false)∧ ∀ k,w'.frozen? ⟨w.heap.size+1+1,k,none⟩=false):=hide (fun w' hk=>⟨(World.cell?_of_block (a:=⟨w.heap.size+1,0,none⟩) (hk _ (.inl rfl))).trans z1,(World.cell?_of_block (a:=⟨w.heap.size+1,1,none⟩) (hk _ (.inl rfl))).trans z2,(World.cell?_of_block (a:=⟨w.heap.size+1+1,0,none⟩) (hk _ (.inr rfl))).trans z3,(World.cell?_of_block (a:=⟨w.heap.size+1+1,1,none⟩) (hk _ (.inr rfl))).trans z4,fun k=>(World.frozen?_of_block (a:=⟨w.heap.size+1,k,none⟩) (hk _ (.inl rfl))).trans (zf1 k),fun k=>(World.frozen?_of_block (a:=⟨w.heap.size+1+1,k,none⟩) (hk _ (.inr rfl))).trans (zf2 k)⟩)
 clear hvo hav hlo hb1 hw3 CV HB0 HJ0 z0 z1 z2 z3 z4 zf1 zf2 hbb
 go_wp2
 generalize ((w1.alloc (.cells #[.int .i64 0,.int .i64 0] 31)).alloc (.cells #[.slice none 0 0,.int .i64 0] 29))=WB at *
 go_loopw [22] (fun iv wr=> ∃ (i:Nat) (pr:List Cd.Pr) (mi:Int) (ap:Option Addr) (cp:Nat),i≤l.length∧iv= .int .i64 i∧Hid (LI (w1.heap.size+1) (fun j=>j<w.heap.size+3∨ ∃ k b,i≤k∧AV[k]? =some b∧ob b.1=some j) pr mi ap cp wr)∧Hid (Kx (fun j=>j<w1.heap.size∧ ∀ k b,k<i→AV[k]? =some b→ob b.1 ≠ some j) w1 wr)∧Hid (Lw.lowerGo n pr (l.drop i) (out.drop i)=some PR)∧Hid (Lw.mainI mi i (l.drop i)=Lw.mainI 0 0 l)∧Hid (pr.length=i)) (fun iv _=>l.length - (intOf iv).toNat)
 case atStart=>exact ⟨0,[],0,none,0,Nat.zero_le _,rfl,HLI,HKB,by simpa using HSS,hide (by simp),hide rfl⟩
 case round=>
  obtain ⟨i,pr,mi,ap,cp,hi,rfl,HI,HK,HGO,HMA,HLE⟩:=hrel
  clear HLI HKB HSS
  by_cases hlt:i<l.length
  ·have d1:decide ((i:Int)<(l.length:Int))=true:=by simp;omega
   obtain ⟨d,hd⟩: ∃ y,l[i]? =some y:=⟨_,List.getElem?_eq_getElem hlt⟩
   obtain ⟨a',cap',hv,hsl⟩:=HL.out
   obtain ⟨rfl,rfl⟩:a=a'∧cap=cap':=by simpa using hv
   rcases hsl with h0|⟨bg,off,cs,rfl,hPb,hr,hc⟩
   ·subst h0;simp at hlt
   obtain ⟨c,hrg,hcc⟩:=hr.at (z:=4) (fun d c h=>by obtain ⟨_,_,_,_,_,_,_,h2,_⟩:=h;rw [h2];rfl) i d hd
   obtain ⟨nm,ax,ps,body,uP,uB,rfl,rfl,hps,hbody⟩:=hrg
   obtain ⟨aP,cP,hvP,-⟩:=id hps
   subst hvP
   obtain ⟨aB,cB,rfl⟩:=hbody.slice
   obtain ⟨x,hx⟩: ∃ y,out[i]? =some y:=⟨_,List.getElem?_eq_getElem (by have:=HLO.out;omega)⟩
   obtain ⟨b,hb⟩: ∃ y,AV[i]? =some y:=⟨_,List.getElem?_eq_getElem (by have:=HLO.out;have:=HVO.out.ln;omega)⟩
   obtain ⟨hgc,hgo,hgj⟩:=HVO.out.at' i x b hx hb
   have hgo1:=HGO.out
   rw [show l.drop i=Sx.tG nm ax ps body::l.drop (i+1) from by rw [List.drop_eq_getElem_cons hlt,(List.getElem?_eq_some_iff.1 hd).2],show out.drop i=x::out.drop (i+1) from by rw [List.drop_eq_getElem_cons (by have:=HLO.out;omega),(List.getElem?_eq_some_iff.1 hx).2]] at hgo1
   obtain ⟨s,hmade,hgo2⟩:=Option.bind_eq_some_iff.1 hgo1
   have HGO2:=hide hgo2
   have hma1:=HMA.out
   rw [show l.drop i=Sx.tG nm ax ps body::l.drop (i+1) from by rw [List.drop_eq_getElem_cons hlt,(List.getElem?_eq_some_iff.1 hd).2]] at hma1
   have HMA1:Hid (Lw.mainI (if nm=[109,97,105,110] then (i:Int) else mi) (i+1) (l.drop (i+1))=Lw.mainI 0 0 l):=hide hma1
   have hPw: ∀ j,P j→j<w1.heap.size∧ ∀ k b,k<i→AV[k]? =some b→ob b.1 ≠ some j:=fun j hj=>⟨by have:=HP.out j hj;omega,fun k b _ hk e=>by have h9:=(HFC.out j ⟨k,b,Nat.zero_le _,hk,e⟩).1;have h8:=HP.out j hj;omega⟩
   have hcx: ∀ (j:Nat) u,[Value.string (bs nm),.int .i64 ax,.slice aP ps.length cP,.slice aB body.length cB][j]? =some u→wr.cell? ⟨bg,off+i * 4+j,none⟩=some u:=fun j u hu=>HK.out.cell (bsome HB1.out (by have:=hc _ _ (hcc j u hu);rwa [←Nat.add_assoc] at this)) (hPw bg hPb)
   have x0:wr.cell? ⟨bg,off+i * 4,none⟩=some (.string (bs nm)):=hcx 0 _ rfl
   have x1:=hcx 1 _ rfl
   have x2:=hcx 2 _ rfl
   have x3:=hcx 3 _ rfl
   have hi0':(0:Int)≤(i:Int):=by omega
   have hi1':(i:Int)<(l.length:Int):=by omega
   have hi2':(i:Int)<(out.length:Int):=by have:=HLO.out;omega
   have hav:=HAV.out (List.ne_nil_of_mem (List.mem_of_getElem? hx))
   subst hav
   have gl:gv<w1.heap.size:=World.block_lt_of_cell? _ _ hgc
   have HGC:=hide (HK.out.cell hgc ⟨gl,fun k b2 _ hk e=>by
    have hkl:=(List.getElem?_eq_some_iff.1 hk).1
    obtain ⟨x2,hx2⟩: ∃ x,out[k]? =some x:=⟨_,List.getElem?_eq_getElem (by rw [←HVO.out.ln];exact hkl)⟩
    exact ((HVO.out.at' k x2 b2 hx2 hk).2.2 gv e).2 rfl⟩)
   have HOW:=hide (own_keepT hgo (fun j hj=>HK.out.block j (hgo.lt j hj).2 ⟨(hgo.lt j hj).2,fun k b2 hk hk2 e=>HVO.out.ap k i b2 b (by omega) hk2 hb j e (by rw [←ob_own b.1 x.length b.2];exact hj)⟩))
   have HPS:=hide (((hps.keepX (Kx.of_below (X:=fun _=>True) HB1.out) (fun _ _=>trivial) (fun _ _ h=>h)).keepX HK.out hPw (fun _ _ h=>h)))
   have HBD:=hide ((hbody.keepX (Kx.of_below (X:=fun _=>True) HB1.out) (fun _ _=>trivial)).keepX HK.out hPw)
   have HMD:=hide hmade
   have HBB:=hide hb
   have HBO:Hid (∀ j,ob b.1=some j→w.heap.size+3≤j∧j<w1.heap.size):=hide (fun j hj=>HFC.out j ⟨i,b,Nat.zero_le _,hb,hj⟩)
   have hprl:pr.length≤1000000:=by rw [HLE.out];omega
   have HLE2:=hide HLE.out
   have hcbl:=HI.out.lt
   clear hd hv hr hc hcc hps hbody hx hb hgc hgo hgj hgo1 hgo2 hmade hma1 HGO HMA hcx HLE hPb
   have HNF:Hid (¬ (fun j=>j<w.heap.size+3∨ ∃ k b,i≤k∧AV[k]? =some b∧ob b.1=some j) (w1.heap.size+1)∧ ∀ j,ob ap=some j→ ¬ (fun j=>j<w.heap.size+3∨ ∃ k b,i≤k∧AV[k]? =some b∧ob b.1=some j) j):=hide ⟨fun e=>by
    rcases e with e|⟨k,b2,_,hk,e⟩
    ·omega
    ·have:=(HFC.out _ ⟨k,b2,Nat.zero_le _,hk,e⟩).2;omega,fun j hj e=>by
    have h9:=(HI.out.apl j hj).1
    rcases e with e|⟨k,b2,_,hk,e⟩
    ·omega
    ·have:=(HFC.out _ ⟨k,b2,Nat.zero_le _,hk,e⟩).2;omega⟩
   have HPB:Hid (∀ j,ob b.1=some j→ ¬ P j):=hide (fun j hj hp=>by have h9:=(HBO.out j hj).1;have h8:=HP.out j hp;omega)
   clear hPw
   by_cases hm:nm=[109,97,105,110]
   ·have dm:((bs nm).toList == [109,97,105,110])=true:=by rw [main_beq];simpa using hm
    rw [if_pos hm] at HMA1
    have m1:=HI.out.c1
    have mf:=HI.out.fz 1
    have HIV:=hide (HI.out.setMain (i:Int))
    have HKV:Hid (Kx (fun j=>j<w1.heap.size∧ ∀ k b,k<i→AV[k]? =some b→ob b.1 ≠ some j) w1 (wr.setCell ⟨(w1.heap.size+1),1,none⟩ (.int .i64 i))):=hide (HK.out.set (.inl (by show w1.heap.size≤w1.heap.size+1;omega)) _)
    have HSZ:Hid ((wr.setCell ⟨(w1.heap.size+1),1,none⟩ (.int .i64 i)).heap.size=wr.heap.size):=hide (by simp [World.setCell])
    have hkc:Kx (fun j=>j ≠ (w1.heap.size+1)) wr (wr.setCell ⟨(w1.heap.size+1),1,none⟩ (.int .i64 i)):=(Kx.refl _ _).set (.inr (fun h=>h rfl)) _
    have HGV:=hide (hkc.cell HGC.out (by show gv ≠ w1.heap.size+1;omega))
    have HOV:=hide (own_keepT HOW.out (fun j hj=>hkc.block j (HOW.out.lt j hj).2 (by have:=(HBO.out j (by rw [←ob_own b.1 x.length b.2];exact hj)).2;show j ≠ w1.heap.size+1;omega)))
    have HPV:=hide (HPS.out.keepX hkc (fun j hj=>by have:=HP.out j hj;show j ≠ w1.heap.size+1;omega) (fun _ _ h=>h))
    have HBV:=hide (HBD.out.keepX hkc (fun j hj=>by have:=HP.out j hj;show j ≠ w1.heap.size+1;omega))
    clear hkc HI HK HGC HOW hm
    go_wp2
    generalize wr.setCell ⟨(w1.heap.size+1),1,none⟩ (.int .i64 i)=wv at *
    obtain ⟨X2,hX2⟩: ∃ X2,wv.alloc (.cells #[.string (bs nm),.int .i64 ax,.slice aP ps.length cP,.slice aB body.length cB] 53)=X2:=⟨_,rfl⟩
    have hbX:Below wv.heap.size wv X2:=by rw [←hX2];exact (Below.refl _ _).alloc (Nat.le_refl _) _
    have e0:X2.cell? ⟨wr.heap.size,0,none⟩=some (.string (bs nm)):=by rw [←hX2,←HSZ.out];simp [go_sem]
    have e1:X2.cell? ⟨wr.heap.size,1,none⟩=some (.int .i64 ax):=by rw [←hX2,←HSZ.out];simp [go_sem]
    have e2:X2.cell? ⟨wr.heap.size,2,none⟩=some (.slice aP ps.length cP):=by rw [←hX2,←HSZ.out];simp [go_sem]
    have e3:X2.cell? ⟨wr.heap.size,3,none⟩=some (.slice aB body.length cB):=by rw [←hX2,←HSZ.out];simp [go_sem]
    have HIX:Hid (LI (w1.heap.size+1) (fun j=>j<w.heap.size+3∨ ∃ k b,i≤k∧AV[k]? =some b∧ob b.1=some j) pr (i:Int) ap cp X2):=hide (HIV.out.keep (Kx.of_below hbX) HNF.out)
    have HID:Hid (LI (w1.heap.size+1) (fun j=>j<w.heap.size+3∨ ∃ k b,i≤k∧AV[k]? =some b∧ob b.1=some j) pr (i:Int) ap cp X2.drew):=hide (HIX.out.keep (Kx.of_below (below_drewN (Below.refl _ _) 1)) HNF.out)
    have HKD:Hid (Kx (fun j=>j<w1.heap.size∧ ∀ k b,k<i→AV[k]? =some b→ob b.1 ≠ some j) w1 X2.drew):=hide (HKV.out.trans (Kx.of_below (btrans hbX (below_drewN (Below.refl _ _) 1))))
    have c0:=HIX.out.c0
    have c0d:=HID.out.c0
    have gc:=bsome hbX HGV.out
    have gcd:X2.drew.cell? ⟨gv,ov+i,none⟩=some (.slice b.1 x.length b.2):=gc
    have e0d:X2.drew.cell? ⟨wr.heap.size,0,none⟩=some (.string (bs nm)):=e0
    have e1d:X2.drew.cell? ⟨wr.heap.size,1,none⟩=some (.int .i64 ax):=e1
    have e2d:X2.drew.cell? ⟨wr.heap.size,2,none⟩=some (.slice aP ps.length cP):=e2
    have e3d:X2.drew.cell? ⟨wr.heap.size,3,none⟩=some (.slice aB body.length cB):=e3
    have hbD:Below wv.heap.size wv X2.drew:=btrans hbX (below_drewN (Below.refl _ _) 1)
    have CM:Hid (Calls Tryz.prog 14 #[.agg #[.string (bs nm),.int .i64 ax,.slice aP ps.length cP,.slice aB body.length cB],.slice b.1 x.length b.2,.slice ap pr.length cp] X2.drew fun e w'=> ∃ u,e= .returned u∧ ∃ q:PV,u= .agg #[.string (bs nm),.slice q.av s.vs.length q.cv,.int .i64 ps.length,.slice q.ab s.bs.length q.cb,.slice q.ai s.is.length q.ci]∧PCx w' (fun j=>(X2.drew.heap.size≤j∧j<w'.heap.size)∨ob b.1=some j) q (Lw.proc (Sx.tG nm ax ps body) s)∧Kx (fun j=>ob b.1 ≠ some j) X2.drew w'):=hide (by
     have hA:=HID.out.abm (fun j=>j<X2.drew.heap.size∧ob b.1 ≠ some j) hprl (fun j hj hn=>⟨hj,fun e=>hn (.inr ⟨i,b,Nat.le_refl _,HBB.out,e⟩)⟩) HNF.out.2
     have hAl:(pr.map fun p=>(p.name,p.vars)).length=pr.length:=List.length_map _
     rw [←hAl] at hA ⊢
     refine (made_any _ n (fun j=>j<X2.drew.heap.size∧ob b.1 ≠ some j) (fun j hj=>hj.1) nm ax ps body aP aB cP cB ((HPV.out.keepX (Kx.of_below (X:=fun _=>True) hbD) (fun _ _=>trivial) (fun _ _ h=>h)).base (fun j hj hp=>⟨hj,fun e=>HPB.out j e hp⟩) (fun _ _ h=>⟨h,RP_ne h⟩)) ((HBV.out.keepX (Kx.of_below (X:=fun _=>True) hbD) (fun _ _=>trivial)).base (fun j hj hp=>⟨hj,fun e=>HPB.out j e hp⟩)) x b.1 b.2 (own_keepT HOV.out (fun j hj=>hbD.block j (HOV.out.lt j hj).2)) (fun j hj h=>h.2 hj) ap cp hA s HMD.out).mono ?_
     rintro e w' ⟨q,rfl,h2,h3⟩
     exact ⟨_,rfl,q,rfl,h2,h3⟩)
    have HFCB:Hid (∀ j,(fun j=>j<w.heap.size+3∨ ∃ k b,i≤k∧AV[k]? =some b∧ob b.1=some j) j→j<(w1.heap.size+1)):=hide (fun j e=>by
     rcases e with e|⟨k,b2,_,hk,e⟩
     ·omega
     ·have:=(HFC.out _ ⟨k,b2,Nat.zero_le _,hk,e⟩).2;omega)
    have HFB:Hid (∀ j,ob b.1=some j→(fun j=>j<w.heap.size+3∨ ∃ k b,i≤k∧AV[k]? =some b∧ob b.1=some j) j∧ ¬ (fun j=>j<w.heap.size+3∨ ∃ k b,i+1≤k∧AV[k]? =some b∧ob b.1=some j) j):=hide (fun j hj=>⟨.inr ⟨i,b,Nat.le_refl _,HBB.out,hj⟩,fun e=>by
     rcases e with e|⟨k,b2,hk1,hk,e⟩
     ·have:=(HBO.out j hj).1;omega
     ·exact HVO.out.ap i k b b2 (by omega) HBB.out hk j hj e⟩)
    have HFM:Hid (∀ j,(fun j=>j<w.heap.size+3∨ ∃ k b,i+1≤k∧AV[k]? =some b∧ob b.1=some j) j→(fun j=>j<w.heap.size+3∨ ∃ k b,i≤k∧AV[k]? =some b∧ob b.1=some j) j):=hide (fun j e=>e.imp id (fun ⟨k,b2,h1,h2,h3⟩=>⟨k,b2,by omega,h2,h3⟩))
    have hX2s:(w1.heap.size+1)<X2.heap.size:=HIX.out.lt
    rw [hX2]
    clear hX2 hbX hbD HPS HBD HPV HBV HOV HGV HIV HKV HMD HIX x0 x1 x2 x3
    go_region_law ((first
     |(refine step_call_ex rfl 14 #[.agg #[.string (bs nm),.int .i64 ax,.slice aP ps.length cP,.slice aB body.length cB],.slice b.1 x.length b.2,.slice ap pr.length cp] ?_ CM.out ?_;(focus (go_simp;done));intro u w3 hq;obtain ⟨q,rfl,hpc,hkx⟩:=hq;obtain ⟨hli3,hpc3⟩:=HID.out.stage hkx hpc HFB.out HFM.out HFCB.out;have hb4:Below w3.heap.size w3 (w3.alloc (.cells #[.string (bs nm),.slice q.av s.vs.length q.cv,.int .i64 ps.length,.slice q.ab s.bs.length q.cb,.slice q.ai s.is.length q.ci] 39)):=(Below.refl _ _).alloc (Nat.le_refl _) _;have hnf3: ¬ (fun j=>j<w.heap.size+3∨ ∃ k b,i+1≤k∧AV[k]? =some b∧ob b.1=some j) (w1.heap.size+1)∧ ∀ j,ob ap=some j→ ¬ (fun j=>j<w.heap.size+3∨ ∃ k b,i+1≤k∧AV[k]? =some b∧ob b.1=some j) j:=⟨fun e=>HNF.out.1 (HFM.out _ e),fun j hj e=>HNF.out.2 j hj (HFM.out _ e)⟩;have hli4:=hli3.keep (Kx.of_below hb4) hnf3;have hpc4:=hpc3.up (Kx.of_below hb4) (fun j hj=>(⟨Nat.lt_of_lt_of_le hj.1 hb4.size,hj.2⟩:j<(w3.alloc (.cells #[.string (bs nm),.slice q.av s.vs.length q.cv,.int .i64 ps.length,.slice q.ab s.bs.length q.cb,.slice q.ai s.is.length q.ci] 39)).heap.size∧j ≠ (w1.heap.size+1)∧ob ap ≠ some j∧ ¬ (fun j=>j<w.heap.size+3∨ ∃ k b,i+1≤k∧AV[k]? =some b∧ob b.1=some j) j));have c03:=hli3.c0;have c04:=hli4.c0;have f04:=hli4.fz 0;have l04:=hli4.lt;have HL4:=hide hli4;have HP4:=hide hpc4;have HK3:Hid (Kx (fun j=>ob b.1 ≠ some j) X2.drew (w3.alloc (.cells #[.string (bs nm),.slice q.av s.vs.length q.cv,.int .i64 ps.length,.slice q.ab s.bs.length q.cb,.slice q.ai s.is.length q.ci] 39))):=hide (hkx.trans (Kx.of_below hb4));obtain ⟨qs,g1,g2,g3⟩:=hli4.ow;have HG2:=hide g2;have HAP:Hid (∀ j,ob ap=some j→(w1.heap.size+1)+1≤j):=hide (fun j hj=>(hli4.apl j hj).1);clear hpc hkx hli3 hpc3 hb4 hnf3 hli4 hpc4 g1 g2 g3)
     |(refine step_append_lies _ rfl _ _ 27 rfl ((w1.heap.size+1)+1) 39 i0 (.agg #[.string ⟨#[]⟩,.slice none 0 0,.int .i64 0,.slice none 0 0,.slice none 0 0]) 5 96 Tryz.underlying27 hi0 hz0 hz1 hz2 rfl (by decide) (.slice ap pr.length cp) pr.length (flatP qs pr) (by rfl) (by exact HG2.out) ⟨w3.heap.size,0,none⟩ 1 1 [.string (bs nm),.slice q.av s.vs.length q.cv,.int .i64 ps.length,.slice q.ab s.bs.length q.cb,.slice q.ai s.is.length q.ci] (by rfl) rfl (by intro j u hu;rw [add_off];exact five_at w3 _ _ _ _ _ _ j u hu) (by intro u hu;simp at hu;rcases hu with rfl|rfl|rfl|rfl|rfl<;> rfl) (by decide) (by unfold maxLen;omega) (by omega) (by exact l04) _ rfl ?_;intro gn cap2 w7 hown hgrow hat hlt7;have hne7:some (w1.heap.size+1) ≠ (Value.slice ap pr.length cp).ownBlock:=(fun e=>by have h9:=HAP.out (w1.heap.size+1) (by rw [←ob_own ap pr.length cp];exact e.symm);omega);have hb7:w7.heap[(w1.heap.size+1)]? =(w3.alloc (.cells #[.string (bs nm),.slice q.av s.vs.length q.cv,.int .i64 ps.length,.slice q.ab s.bs.length q.cb,.slice q.ai s.is.length q.ci] 39)).heap[(w1.heap.size+1)]? :=hgrow.block (w1.heap.size+1) l04 hne7;have z7:w7.cell? ⟨(w1.heap.size+1),0,none⟩=some (.slice ap pr.length cp):=(World.cell?_of_block (a:=⟨(w1.heap.size+1),0,none⟩) hb7).trans c04;have y7:w7.frozen? ⟨(w1.heap.size+1),0,none⟩=false:=(World.frozen?_of_block (a:=⟨(w1.heap.size+1),0,none⟩) hb7).trans f04;have HOWN:=hide hown;have HGRO:=hide hgrow;have HAT:=hide hat;clear hown hgrow hat hb7 hlt7 hne7)))
    all_goals
     obtain ⟨hli8,hk8⟩:=LI.push HL4.out HP4.out (fun xs h=>by rw [own_uniq h HG2.out];exact HOWN.out) HGRO.out HAT.out
     have HLI8:=hide hli8
     have HKX8:Hid (Kx (fun j=>j<w1.heap.size∧ ∀ k b,k<i+1→AV[k]? =some b→ob b.1 ≠ some j) w1 (w7.setCell ⟨(w1.heap.size+1),0,none⟩ (.slice (some ⟨gn,0,none⟩) (pr.length+1) cap2))):=hide (by
      have k1:=HKD.out.mono (Y:=(fun j=>j<w1.heap.size∧ ∀ k b,k<i+1→AV[k]? =some b→ob b.1 ≠ some j)) (fun j _ hj=>⟨hj.1,fun k b2 hk=>hj.2 k b2 (by omega)⟩)
      have k2:=HK3.out.mono (Y:=(fun j=>j<w1.heap.size∧ ∀ k b,k<i+1→AV[k]? =some b→ob b.1 ≠ some j)) (fun j _ hj=>hj.2 i b (by omega) HBB.out)
      have k3:=hk8.mono (Y:=(fun j=>j<w1.heap.size∧ ∀ k b,k<i+1→AV[k]? =some b→ob b.1 ≠ some j)) (fun j _ hj=>⟨by have:=hj.1;omega,fun e=>by have h8:=HAP.out j e;have:=hj.1;omega⟩)
      exact (k1.trans k2).trans k3)
     have HLE3:Hid ((pr++[Lw.proc (Sx.tG nm ax ps body) s]).length=i+1):=hide (by simp [HLE2.out])
     clear hli8 hk8 HOWN HGRO HAT HG2 HL4 HP4 HK3 HAP z7 y7 c03 c04 f04 l04 HID HKD CM HFCB HFB HFM HLE2
     go_wp2
     go_roundw
     case rel=>exact ⟨i+1,pr++[Lw.proc (Sx.tG nm ax ps body) s],(i:Int),_,_,by omega,by go_num,HLI8,HKX8,HGO2,HMA1,HLE3⟩
     case measure=>simp [intOf];omega
   ·have dm:((bs nm).toList == [109,97,105,110])=false:=by rw [main_beq];simpa using hm
    rw [if_neg hm] at HMA1
    have HIV:=hide HI.out
    have HKV:=hide HK.out
    have HGV:=hide HGC.out
    have HOV:=hide HOW.out
    have HPV:=hide HPS.out
    have HBV:=hide HBD.out
    clear HI HK HGC HOW hm
    go_wp2
    obtain ⟨X2,hX2⟩: ∃ X2,wr.alloc (.cells #[.string (bs nm),.int .i64 ax,.slice aP ps.length cP,.slice aB body.length cB] 53)=X2:=⟨_,rfl⟩
    have hbX:Below wr.heap.size wr X2:=by rw [←hX2];exact (Below.refl _ _).alloc (Nat.le_refl _) _
    have e0:X2.cell? ⟨wr.heap.size,0,none⟩=some (.string (bs nm)):=by rw [←hX2];simp [go_sem]
    have e1:X2.cell? ⟨wr.heap.size,1,none⟩=some (.int .i64 ax):=by rw [←hX2];simp [go_sem]
    have e2:X2.cell? ⟨wr.heap.size,2,none⟩=some (.slice aP ps.length cP):=by rw [←hX2];simp [go_sem]
    have e3:X2.cell? ⟨wr.heap.size,3,none⟩=some (.slice aB body.length cB):=by rw [←hX2];simp [go_sem]
    have HIX:Hid (LI (w1.heap.size+1) (fun j=>j<w.heap.size+3∨ ∃ k b,i≤k∧AV[k]? =some b∧ob b.1=some j) pr mi ap cp X2):=hide (HIV.out.keep (Kx.of_below hbX) HNF.out)
    have HID:Hid (LI (w1.heap.size+1) (fun j=>j<w.heap.size+3∨ ∃ k b,i≤k∧AV[k]? =some b∧ob b.1=some j) pr mi ap cp X2.drew):=hide (HIX.out.keep (Kx.of_below (below_drewN (Below.refl _ _) 1)) HNF.out)
    have HKD:Hid (Kx (fun j=>j<w1.heap.size∧ ∀ k b,k<i→AV[k]? =some b→ob b.1 ≠ some j) w1 X2.drew):=hide (HKV.out.trans (Kx.of_below (btrans hbX (below_drewN (Below.refl _ _) 1))))
    have c0:=HIX.out.c0
    have c0d:=HID.out.c0
    have gc:=bsome hbX HGV.out
    have gcd:X2.drew.cell? ⟨gv,ov+i,none⟩=some (.slice b.1 x.length b.2):=gc
    have e0d:X2.drew.cell? ⟨wr.heap.size,0,none⟩=some (.string (bs nm)):=e0
    have e1d:X2.drew.cell? ⟨wr.heap.size,1,none⟩=some (.int .i64 ax):=e1
    have e2d:X2.drew.cell? ⟨wr.heap.size,2,none⟩=some (.slice aP ps.length cP):=e2
    have e3d:X2.drew.cell? ⟨wr.heap.size,3,none⟩=some (.slice aB body.length cB):=e3
    have hbD:Below wr.heap.size wr X2.drew:=btrans hbX (below_drewN (Below.refl _ _) 1)
    have CM:Hid (Calls Tryz.prog 14 #[.agg #[.string (bs nm),.int .i64 ax,.slice aP ps.length cP,.slice aB body.length cB],.slice b.1 x.length b.2,.slice ap pr.length cp] X2.drew fun e w'=> ∃ u,e= .returned u∧ ∃ q:PV,u= .agg #[.string (bs nm),.slice q.av s.vs.length q.cv,.int .i64 ps.length,.slice q.ab s.bs.length q.cb,.slice q.ai s.is.length q.ci]∧PCx w' (fun j=>(X2.drew.heap.size≤j∧j<w'.heap.size)∨ob b.1=some j) q (Lw.proc (Sx.tG nm ax ps body) s)∧Kx (fun j=>ob b.1 ≠ some j) X2.drew w'):=hide (by
     have hA:=HID.out.abm (fun j=>j<X2.drew.heap.size∧ob b.1 ≠ some j) hprl (fun j hj hn=>⟨hj,fun e=>hn (.inr ⟨i,b,Nat.le_refl _,HBB.out,e⟩)⟩) HNF.out.2
     have hAl:(pr.map fun p=>(p.name,p.vars)).length=pr.length:=List.length_map _
     rw [←hAl] at hA ⊢
     refine (made_any _ n (fun j=>j<X2.drew.heap.size∧ob b.1 ≠ some j) (fun j hj=>hj.1) nm ax ps body aP aB cP cB ((HPV.out.keepX (Kx.of_below (X:=fun _=>True) hbD) (fun _ _=>trivial) (fun _ _ h=>h)).base (fun j hj hp=>⟨hj,fun e=>HPB.out j e hp⟩) (fun _ _ h=>⟨h,RP_ne h⟩)) ((HBV.out.keepX (Kx.of_below (X:=fun _=>True) hbD) (fun _ _=>trivial)).base (fun j hj hp=>⟨hj,fun e=>HPB.out j e hp⟩)) x b.1 b.2 (own_keepT HOV.out (fun j hj=>hbD.block j (HOV.out.lt j hj).2)) (fun j hj h=>h.2 hj) ap cp hA s HMD.out).mono ?_
     rintro e w' ⟨q,rfl,h2,h3⟩
     exact ⟨_,rfl,q,rfl,h2,h3⟩)
    have HFCB:Hid (∀ j,(fun j=>j<w.heap.size+3∨ ∃ k b,i≤k∧AV[k]? =some b∧ob b.1=some j) j→j<(w1.heap.size+1)):=hide (fun j e=>by
     rcases e with e|⟨k,b2,_,hk,e⟩
     ·omega
     ·have:=(HFC.out _ ⟨k,b2,Nat.zero_le _,hk,e⟩).2;omega)
    have HFB:Hid (∀ j,ob b.1=some j→(fun j=>j<w.heap.size+3∨ ∃ k b,i≤k∧AV[k]? =some b∧ob b.1=some j) j∧ ¬ (fun j=>j<w.heap.size+3∨ ∃ k b,i+1≤k∧AV[k]? =some b∧ob b.1=some j) j):=hide (fun j hj=>⟨.inr ⟨i,b,Nat.le_refl _,HBB.out,hj⟩,fun e=>by
     rcases e with e|⟨k,b2,hk1,hk,e⟩
     ·have:=(HBO.out j hj).1;omega
     ·exact HVO.out.ap i k b b2 (by omega) HBB.out hk j hj e⟩)
    have HFM:Hid (∀ j,(fun j=>j<w.heap.size+3∨ ∃ k b,i+1≤k∧AV[k]? =some b∧ob b.1=some j) j→(fun j=>j<w.heap.size+3∨ ∃ k b,i≤k∧AV[k]? =some b∧ob b.1=some j) j):=hide (fun j e=>e.imp id (fun ⟨k,b2,h1,h2,h3⟩=>⟨k,b2,by omega,h2,h3⟩))
    have hX2s:(w1.heap.size+1)<X2.heap.size:=HIX.out.lt
    rw [hX2]
    clear hX2 hbX hbD HPS HBD HPV HBV HOV HGV HIV HKV HMD HIX x0 x1 x2 x3
    go_region_law ((first
     |(refine step_call_ex rfl 14 #[.agg #[.string (bs nm),.int .i64 ax,.slice aP ps.length cP,.slice aB body.length cB],.slice b.1 x.length b.2,.slice ap pr.length cp] ?_ CM.out ?_;(focus (go_simp;done));intro u w3 hq;obtain ⟨q,rfl,hpc,hkx⟩:=hq;obtain ⟨hli3,hpc3⟩:=HID.out.stage hkx hpc HFB.out HFM.out HFCB.out;have hb4:Below w3.heap.size w3 (w3.alloc (.cells #[.string (bs nm),.slice q.av s.vs.length q.cv,.int .i64 ps.length,.slice q.ab s.bs.length q.cb,.slice q.ai s.is.length q.ci] 39)):=(Below.refl _ _).alloc (Nat.le_refl _) _;have hnf3: ¬ (fun j=>j<w.heap.size+3∨ ∃ k b,i+1≤k∧AV[k]? =some b∧ob b.1=some j) (w1.heap.size+1)∧ ∀ j,ob ap=some j→ ¬ (fun j=>j<w.heap.size+3∨ ∃ k b,i+1≤k∧AV[k]? =some b∧ob b.1=some j) j:=⟨fun e=>HNF.out.1 (HFM.out _ e),fun j hj e=>HNF.out.2 j hj (HFM.out _ e)⟩;have hli4:=hli3.keep (Kx.of_below hb4) hnf3;have hpc4:=hpc3.up (Kx.of_below hb4) (fun j hj=>(⟨Nat.lt_of_lt_of_le hj.1 hb4.size,hj.2⟩:j<(w3.alloc (.cells #[.string (bs nm),.slice q.av s.vs.length q.cv,.int .i64 ps.length,.slice q.ab s.bs.length q.cb,.slice q.ai s.is.length q.ci] 39)).heap.size∧j ≠ (w1.heap.size+1)∧ob ap ≠ some j∧ ¬ (fun j=>j<w.heap.size+3∨ ∃ k b,i+1≤k∧AV[k]? =some b∧ob b.1=some j) j));have c03:=hli3.c0;have c04:=hli4.c0;have f04:=hli4.fz 0;have l04:=hli4.lt;have HL4:=hide hli4;have HP4:=hide hpc4;have HK3:Hid (Kx (fun j=>ob b.1 ≠ some j) X2.drew (w3.alloc (.cells #[.string (bs nm),.slice q.av s.vs.length q.cv,.int .i64 ps.length,.slice q.ab s.bs.length q.cb,.slice q.ai s.is.length q.ci] 39))):=hide (hkx.trans (Kx.of_below hb4));obtain ⟨qs,g1,g2,g3⟩:=hli4.ow;have HG2:=hide g2;have HAP:Hid (∀ j,ob ap=some j→(w1.heap.size+1)+1≤j):=hide (fun j hj=>(hli4.apl j hj).1);clear hpc hkx hli3 hpc3 hb4 hnf3 hli4 hpc4 g1 g2 g3)
     |(refine step_append_lies _ rfl _ _ 27 rfl ((w1.heap.size+1)+1) 39 i0 (.agg #[.string ⟨#[]⟩,.slice none 0 0,.int .i64 0,.slice none 0 0,.slice none 0 0]) 5 96 Tryz.underlying27 hi0 hz0 hz1 hz2 rfl (by decide) (.slice ap pr.length cp) pr.length (flatP qs pr) (by rfl) (by exact HG2.out) ⟨w3.heap.size,0,none⟩ 1 1 [.string (bs nm),.slice q.av s.vs.length q.cv,.int .i64 ps.length,.slice q.ab s.bs.length q.cb,.slice q.ai s.is.length q.ci] (by rfl) rfl (by intro j u hu;rw [add_off];exact five_at w3 _ _ _ _ _ _ j u hu) (by intro u hu;simp at hu;rcases hu with rfl|rfl|rfl|rfl|rfl<;> rfl) (by decide) (by unfold maxLen;omega) (by omega) (by exact l04) _ rfl ?_;intro gn cap2 w7 hown hgrow hat hlt7;have hne7:some (w1.heap.size+1) ≠ (Value.slice ap pr.length cp).ownBlock:=(fun e=>by have h9:=HAP.out (w1.heap.size+1) (by rw [←ob_own ap pr.length cp];exact e.symm);omega);have hb7:w7.heap[(w1.heap.size+1)]? =(w3.alloc (.cells #[.string (bs nm),.slice q.av s.vs.length q.cv,.int .i64 ps.length,.slice q.ab s.bs.length q.cb,.slice q.ai s.is.length q.ci] 39)).heap[(w1.heap.size+1)]? :=hgrow.block (w1.heap.size+1) l04 hne7;have z7:w7.cell? ⟨(w1.heap.size+1),0,none⟩=some (.slice ap pr.length cp):=(World.cell?_of_block (a:=⟨(w1.heap.size+1),0,none⟩) hb7).trans c04;have y7:w7.frozen? ⟨(w1.heap.size+1),0,none⟩=false:=(World.frozen?_of_block (a:=⟨(w1.heap.size+1),0,none⟩) hb7).trans f04;have HOWN:=hide hown;have HGRO:=hide hgrow;have HAT:=hide hat;clear hown hgrow hat hb7 hlt7 hne7)))
    all_goals
     obtain ⟨hli8,hk8⟩:=LI.push HL4.out HP4.out (fun xs h=>by rw [own_uniq h HG2.out];exact HOWN.out) HGRO.out HAT.out
     have HLI8:=hide hli8
     have HKX8:Hid (Kx (fun j=>j<w1.heap.size∧ ∀ k b,k<i+1→AV[k]? =some b→ob b.1 ≠ some j) w1 (w7.setCell ⟨(w1.heap.size+1),0,none⟩ (.slice (some ⟨gn,0,none⟩) (pr.length+1) cap2))):=hide (by
      have k1:=HKD.out.mono (Y:=(fun j=>j<w1.heap.size∧ ∀ k b,k<i+1→AV[k]? =some b→ob b.1 ≠ some j)) (fun j _ hj=>⟨hj.1,fun k b2 hk=>hj.2 k b2 (by omega)⟩)
      have k2:=HK3.out.mono (Y:=(fun j=>j<w1.heap.size∧ ∀ k b,k<i+1→AV[k]? =some b→ob b.1 ≠ some j)) (fun j _ hj=>hj.2 i b (by omega) HBB.out)
      have k3:=hk8.mono (Y:=(fun j=>j<w1.heap.size∧ ∀ k b,k<i+1→AV[k]? =some b→ob b.1 ≠ some j)) (fun j _ hj=>⟨by have:=hj.1;omega,fun e=>by have h8:=HAP.out j e;have:=hj.1;omega⟩)
      exact (k1.trans k2).trans k3)
     have HLE3:Hid ((pr++[Lw.proc (Sx.tG nm ax ps body) s]).length=i+1):=hide (by simp [HLE2.out])
     clear hli8 hk8 HOWN HGRO HAT HG2 HL4 HP4 HK3 HAP z7 y7 c03 c04 f04 l04 HID HKD CM HFCB HFB HFM HLE2
     go_wp2
     go_roundw
     case rel=>exact ⟨i+1,pr++[Lw.proc (Sx.tG nm ax ps body) s],mi,_,_,by omega,by go_num,HLI8,HKX8,HGO2,HMA1,HLE3⟩
     case measure=>simp [intOf];omega
  ·obtain rfl:i=l.length:=by omega
   have d1:decide ((l.length:Int)<(l.length:Int))=false:=by simp
   have hgo:=HGO.out
   rw [List.drop_length] at hgo
   have hpr:pr=PR:=by
    have:Lw.lowerGo n pr [] (out.drop l.length)=some pr:=rfl
    rw [this] at hgo;exact Option.some.inj hgo
   subst hpr
   have hma:mi=Lw.mainI 0 0 l:=by have:=HMA.out;rw [List.drop_length] at this;exact this
   obtain ⟨u1,u2,u3,u4,f1,f2⟩:=HR1.out wr (fun j hj=>HK.out.block j (by rcases hj with h|h<;> omega) ⟨by rcases hj with h|h<;> omega,fun k b _ hk e=>by
    have:=(HFC.out j ⟨k,b,Nat.zero_le _,hk,e⟩).1
    rcases hj with h|h<;> omega⟩)
   have c0:=HI.out.c0
   have c1:=HI.out.c1
   rw [hma] at c1
   have f10:=f1 0
   have f11:=f1 1
   have f20:=f2 0
   have f21:=f2 1
   have HZ:Hid (∀ (v0 v1 v2 v3:Value),∃ Z,(((wr.setCell ⟨w.heap.size+1,0,none⟩ v0).setCell ⟨w.heap.size+1,1,none⟩ v1).setCell ⟨w.heap.size+1+1,0,none⟩ v2).setCell ⟨w.heap.size+1+1,1,none⟩ v3=Z∧CoR Z (.slice ap pr.length cp) pr∧Below w.heap.size w Z∧Z.cell? ⟨w.heap.size+1,0,none⟩=some v0∧Z.cell? ⟨w.heap.size+1,1,none⟩=some v1∧Z.cell? ⟨w.heap.size+1+1,0,none⟩=some v2∧Z.cell? ⟨w.heap.size+1+1,1,none⟩=some v3):=hide (fun v0 v1 v2 v3=>by
    have hk: ∀ X:Nat→Prop,¬ X (w.heap.size+1)→ ¬ X (w.heap.size+1+1)→Kx X wr ((((wr.setCell ⟨w.heap.size+1,0,none⟩ v0).setCell ⟨w.heap.size+1,1,none⟩ v1).setCell ⟨w.heap.size+1+1,0,none⟩ v2).setCell ⟨w.heap.size+1+1,1,none⟩ v3):=fun X h1 h2=>((((Kx.refl _ _).set (.inr h1) _).set (.inr h1) _).set (.inr h2) _).set (.inr h2) _
    have o: ∀ (W:World) (b c i j:Nat) (v:Value),(b ≠ c∨i ≠ j)→(W.setCell ⟨b,i,none⟩ v).cell? ⟨c,j,none⟩=W.cell? ⟨c,j,none⟩:=fun W b c i j v h=>World.cell?_setCell_other _ _ _ _ (fun e=>by injection e with e1 e2;rcases h with h|h<;> omega)
    have hwl:Below w.heap.size w wr:=⟨HK.out.os.trans HB1.out.os,HK.out.tape.trans HB1.out.tape,HK.out.output.trans HB1.out.output,Nat.le_trans HB1.out.size HK.out.size,fun j hj=>(HK.out.block j (by omega) ⟨by omega,fun k b _ hk e=>by have:=(HFC.out j ⟨k,b,Nat.zero_le _,hk,e⟩).1;omega⟩).trans (HB1.out.block j hj)⟩
    have hli:LI (w1.heap.size+1) (fun j=>j<w.heap.size+3∨ ∃ k b,l.length≤k∧AV[k]? =some b∧ob b.1=some j) pr mi ap cp _:=HI.out.keep (hk (fun j=> ¬ (j<w.heap.size+3∨ ∃ k b,l.length≤k∧AV[k]? =some b∧ob b.1=some j)) (fun h=>h (.inl (by omega))) (fun h=>h (.inl (by omega)))) ⟨fun e=>by
     rcases e with e|⟨k,b,_,hk,e⟩
     ·omega
     ·have:=(HFC.out _ ⟨k,b,Nat.zero_le _,hk,e⟩).2;omega,fun j hj e=>by
     have h9:=(HI.out.apl j hj).1
     rcases e with e|⟨k,b,_,hk,e⟩
     ·omega
     ·have:=(HFC.out _ ⟨k,b,Nat.zero_le _,hk,e⟩).2;omega⟩
    refine ⟨_,rfl,hli.code,(((hwl.setCell (Nat.le_succ _) _).setCell (Nat.le_succ _) _).setCell (by show w.heap.size≤w.heap.size+1+1;omega) _).setCell (by show w.heap.size≤w.heap.size+1+1;omega) _,?_,?_,?_,?_⟩
    ·rw [o _ _ _ 1 0 _ (.inr (by decide)),o _ _ _ 0 0 _ (.inl (by omega)),o _ _ _ 1 0 _ (.inr (by decide))];exact World.cell?_setCell_same _ _ _ u1
    ·rw [o _ _ _ 1 1 _ (.inl (by omega)),o _ _ _ 0 1 _ (.inr (by decide))];exact World.cell?_setCell_same _ _ _ ((o _ _ _ 0 1 _ (.inr (by decide))).trans u2)
    ·rw [o _ _ _ 1 0 _ (.inr (by decide))];exact World.cell?_setCell_same _ _ _ (by rw [o _ _ _ 1 0 _ (.inr (by decide)),o _ _ _ 0 0 _ (.inl (by omega))];exact u3)
    ·exact World.cell?_setCell_same _ _ _ (by rw [o _ _ _ 0 1 _ (.inr (by decide)),o _ _ _ 1 1 _ (.inl (by omega)),o _ _ _ 0 1 _ (.inr (by decide))];exact u4))
   have HCP:=hide HI.out.cap
   clear hgo HGO HMA HLE hma f1 f2
   go_wp2
   obtain ⟨Z,hZ,q1,q2,q3,q4,q5,q6⟩:=HZ.out (.slice ap pr.length cp) (.int .i64 (Lw.mainI 0 0 l)) (.int .i64 0) (.int .i64 0)
   rw [hZ]
   refine bodyPost_ret (v:= .tuple #[.agg #[.slice ap pr.length cp,.int .i64 (Lw.mainI 0 0 l)],.agg #[.int .i64 0,.int .i64 0]]) (by simp [results,Tryz.results7,go_sem,q3,q4,q5,q6]) rfl ⟨ap,cp,rfl,q1,q2,HCP.out⟩
end Go.Proofs.YtcdcoiobpbdmpaaGreatDoor
