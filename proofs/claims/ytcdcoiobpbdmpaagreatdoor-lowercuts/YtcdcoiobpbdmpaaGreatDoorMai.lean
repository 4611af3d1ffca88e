import Derived.Test.YtcdcoiobpbdmpaaGreatDoorMah
import Derived.Deep.RegionHeld3
import Derived.Laws.OwnMore
import Derived.Deep.Onto
namespace Go.Proofs.YtcdcoiobpbdmpaaGreatDoor
open Go.RowKit
def Cd.stp (vs:List (ByteArray × ByteArray)) (op:Int) (nm:ByteArray) (k:Int):Int × Int:=(op,if op=2 then Cd.nmb vs nm else k)
set_option maxRecDepth 100000 in
set_option maxHeartbeats 1000000 in
theorem step_any (vs:List (ByteArray × ByteArray)) (a:Option Addr) (c g:Nat) (op:Int) (nm:ByteArray) (k:Int) (al:Option Addr) (nl cl:Nat) (w:World) (hg:w.cell? ⟨g,1,none⟩=some (.slice a vs.length c)) (h:VaR w (.slice a vs.length c) vs) (hl:vs.length≤1000000):
  Calls Tryz.prog 108 #[.pointer (some ⟨g,0,none⟩),.agg #[.int .i64 op,.string nm,.int .i64 k,.slice al nl cl]] w fun e w'=>e= .returned (.agg #[.int .i64 (Cd.stp vs op nm k).1,.int .i64 (Cd.stp vs op nm k).2])∧Below w.heap.size w w':=by
 have hb:Below w.heap.size w ((w.alloc (.cells #[.int .i64 op,.string nm,.int .i64 k,.slice al nl cl] 112)).alloc (.cells #[.int .i64 0,.int .i64 0] 161)):=((Below.refl _ _).alloc (Nat.le_refl _) _).alloc (by simp) _
 have CN:=hide (fun w' (hb':Below w.heap.size w w')=>lNumber_any vs nm a c g w' (bsome hb' hg) (h.keep hb') hl)
 have HB:=hide hb
 clear h hb
 by_cases h2:op=2
 ·subst h2
  have HS:Hid (Cd.stp vs 2 nm k=(2,Cd.nmb vs nm)):=hide rfl
  rw [HS.out]
  generalize Cd.nmb vs nm=R at *
  clear HS hg
  go_enter Tryz.func108,Tryz.ntmps108
  go_wp2
  obtain ⟨W,hW⟩: ∃ W,(w.alloc (.cells #[.int .i64 2,.string nm,.int .i64 k,.slice al nl cl] 112)).alloc (.cells #[.int .i64 0,.int .i64 0] 161)=W:=⟨_,rfl⟩
  have HJ:Hid (∀ w',Below W.heap.size W w'→w'.cell? ⟨w.heap.size,0,none⟩=some (.int .i64 2)∧w'.cell? ⟨w.heap.size,1,none⟩=some (.string nm)∧w'.cell? ⟨w.heap.size+1,0,none⟩=some (.int .i64 0)∧w'.cell? ⟨w.heap.size+1,1,none⟩=some (.int .i64 0)∧w'.frozen? ⟨w.heap.size+1,0,none⟩=false∧w'.frozen? ⟨w.heap.size+1,1,none⟩=false):=hide (fun w' hb=>by
   have hs:W.heap.size=w.heap.size+2:=by rw [←hW];simp
   have hf:=hb.block (w.heap.size+1) (by omega)
   refine ⟨bsome hb (by rw [←hW];simp [go_sem]),bsome hb (by rw [←hW];simp [go_sem]),bsome hb (by rw [←hW];simp [go_sem]),bsome hb (by rw [←hW];simp [go_sem]),?_,?_⟩
   ·exact (World.frozen?_of_block (w:=W) (a:=⟨w.heap.size+1,0,none⟩) hf).trans (by rw [←hW];simp [go_sem])
   ·exact (World.frozen?_of_block (w:=W) (a:=⟨w.heap.size+1,1,none⟩) hf).trans (by rw [←hW];simp [go_sem]))
  rw [hW] at HB ⊢
  clear hW
  have kc:Hid (Below W.heap.size W W.drew):=hide (below_drewN (Below.refl _ _) 1)
  obtain ⟨a0,a1,a2,a3,a4,a5⟩:=HJ.out W (Below.refl _ _)
  go_region_held3 (fun w'=>w'.cell? ⟨w.heap.size,0,none⟩=some (.int .i64 2)∧w'.cell? ⟨w.heap.size,1,none⟩=some (.string nm)) ((first|exact ⟨by assumption,by assumption⟩|go_keep)) ((first
   |(go_at_call 47;refine (CN.out _ (by exact btrans HB.out kc.out)).mono ?_;rintro e w9 ⟨rfl,hb9⟩;have HB9:=hide (btrans kc.out hb9);clear hb9;obtain ⟨j0,j1,j2,j3,j4,j5⟩:=HJ.out _ HB9.out)))
  all_goals
   have HF:Hid (Below w.heap.size w ((w9.setCell ⟨w.heap.size+1,0,none⟩ (.int .i64 2)).setCell ⟨w.heap.size+1,1,none⟩ (.int .i64 R))):=hide (((btrans HB.out HB9.out).setCell (Nat.le_succ _) _).setCell (Nat.le_succ _) _)
   have v1:((w9.setCell ⟨w.heap.size+1,0,none⟩ (.int .i64 2)).setCell ⟨w.heap.size+1,1,none⟩ (.int .i64 R)).cell? ⟨w.heap.size+1,1,none⟩=some (.int .i64 R):=World.cell?_setCell_same _ _ _ ((World.cell?_setCell_other _ _ _ _ (fun e=>by injection e with e1 e2;omega)).trans j3)
   have v0:((w9.setCell ⟨w.heap.size+1,0,none⟩ (.int .i64 2)).setCell ⟨w.heap.size+1,1,none⟩ (.int .i64 R)).cell? ⟨w.heap.size+1,0,none⟩=some (.int .i64 2):=(World.cell?_setCell_other _ _ _ _ (fun e=>by injection e with e1 e2;omega)).trans (World.cell?_setCell_same _ _ _ j2)
   go_wp2
   refine bodyPost_ret (v:= .agg #[.int .i64 2,.int .i64 R]) (by simp [results,Tryz.results108,go_sem,v0,v1]) rfl ⟨rfl,HF.out⟩
 ·have HS:Hid (Cd.stp vs op nm k=(op,k)):=hide (by unfold Cd.stp;rw [if_neg h2])
  rw [HS.out]
  have b2:(op == 2)=false:=by simpa using h2
  have d2:decide (op=2)=false:=by simpa using h2
  clear HS h2 CN
  go_enter Tryz.func108,Tryz.ntmps108
  go_wp2
  refine bodyPost_ret (v:= .agg #[.int .i64 op,.int .i64 k]) (by simp [results,Tryz.results108,go_sem]) rfl ⟨rfl,?_⟩
  exact ((Below.refl _ _).alloc (Nat.le_refl _) _).alloc (by simp) _
end Go.Proofs.YtcdcoiobpbdmpaaGreatDoor
namespace Go.Proofs.YtcdcoiobpbdmpaaGreatDoor
def Cd.ovI (k:Int):Cd.In:=⟨16,k,0,0,0,⟨#[]⟩,[],[],0,0,0⟩
def Cd.jmp (to:Int):Cd.In:=⟨15,0,0,0,to,⟨#[]⟩,[],[],0,0,0⟩
end Go.Proofs.YtcdcoiobpbdmpaaGreatDoor
namespace Go.Proofs.YtcdcoiobpbdmpaaGreatDoor.Lw
open Go.Proofs.YtcdcoiobpbdmpaaGreatDoor.Sx
abbrev Vr:=ByteArray × ByteArray
abbrev Bk:=Int × Int × Int × Int
structure St where
 vs:List Vr
 bs:List Bk
 is:List Cd.In
def sAt:Tr→Int
 | .agg [_,.lit (.int _ a),_,_,_,_,_,_,_]=>a
 |_=>0
def gAt:Tr→Int
 | .agg [_,.lit (.int _ a),_,_]=>a
 |_=>0
def put (s:St) (bk at':Int) (x:Cd.In):Option St:=
 if s.is.length<1000000 then some ⟨s.vs,s.bs,s.is++[⟨x.op,x.a,x.b,x.n,x.to,x.t,x.e,x.args,bk,x.lp,at'⟩]⟩ else none
def vat (vs:List Vr) (k:Int):Option Vr:=if 0≤k then vs[k.toNat]? else none
def ov1 (s:St) (bk at':Int) (nm:ByteArray):Option St:=
 match vat s.vs (Cd.nmb s.vs nm) with
 |some y=>if Cd.endT y.2 then put s bk at' (Cd.ovI (Cd.nmb s.vs nm)) else some s
 |none=>none
def over:St→Int→Int→List ByteArray→Option St
 |s,_,_,[]=>some s
 |s,bk,at',nm::r=>(ov1 s bk at' nm).bind fun s2=>over s2 bk at' r
def bnds (t:Tr):List ByteArray:=Cd.bnd (sH t).1 (bs (sH t).2.1) (bs (sH t).2.2.1)
def overs:St→Int→Int→List Tr→Option St
 |s,_,_,[]=>some s
 |s,bk,at',t::r=>(over s bk at' (bnds t)).bind fun s2=>overs s2 bk at' r
def stmts (st:St→Int→Tr→Option St):St→Int→List Tr→Option St
 |s,_,[]=>some s
 |s,bk,t::r=>(st s bk t).bind fun s2=>stmts st s2 bk r
def within (st:St→Int→Tr→Option St) (s:St) (blk at':Int) (b:Int × Int × Int) (body:List Tr) (last:St→Int→Option St):Option St:=
 if s.bs.length<1000000∧body.length≤1000000 then
  (stmts st ⟨s.vs,s.bs++[(b.1,blk,b.2.1,b.2.2)],s.is⟩ s.bs.length body).bind fun s2=>(overs s2 s.bs.length at' body).bind fun s3=>last s3 s.bs.length
 else none
def setTo (s:St) (k:Nat) (to:Int):Option St:=
 match s.is[k]? with
 |some x=>some ⟨s.vs,s.bs,s.is.set k ⟨x.op,x.a,x.b,x.n,to,x.t,x.e,x.args,x.bk,x.lp,x.at'⟩⟩
 |none=>none
def loop (st:St→Int→Tr→Option St) (s:St) (blk at':Int) (h:Cd.In) (b:Int × Int × Int) (body:List Tr) (nms:List ByteArray):Option St:=
 (put s blk at' ⟨h.op,h.a,h.b,h.n,h.to,h.t,h.e,h.args,h.bk,s.bs.length,h.at'⟩).bind fun s1=>
  (within st s1 blk at' b body fun s3 nb=>(over s3 nb at' nms).bind fun s4=>put s4 nb at' (Cd.jmp s.is.length)).bind fun s2=>setTo s2 s.is.length s2.is.length
def either (st:St→Int→Tr→Option St) (s:St) (blk at':Int) (h:Cd.In) (body els:List Tr) (nms:List ByteArray):Option St:=
 (put s blk at' h).bind fun s1=>
  (within st s1 blk at' (3,0,0) body fun s3 nb=>(over s3 nb at' nms).bind fun s4=>put s4 nb at' (Cd.jmp 0)).bind fun s2=>
   (setTo s2 s.is.length s2.is.length).bind fun s5=>(within st s5 blk at' (4,0,0) els fun s3 _=>some s3).bind fun s6=>setTo s6 (s2.is.length - 1) s6.is.length
def stps (vs:List Vr):Nat→List Tr→List (Int × Int)
 |0,_=>[]
 |n+1,l=>l.flatMap fun x=>stps vs n (eL x)++[Cd.stp vs (eH x).1 (bs (eH x).2.1) (eH x).2.2]
abbrev Ab:=ByteArray × List Vr
def sps (s:St) (n:Nat) (ws:List Vr):Nat→List Tr→Option (List (List (Int × Int) × Int))
 |_,[]=>some []
 |i,x::r=>match ws[i]? with
  |none=>none
  |some y=>(sps s n ws (i+1) r).bind fun q=>some ((if Cd.endT y.2 then ([],Cd.nmb s.vs (bs (eH x).2.1)) else (stps s.vs n [x],0))::q)
def stmt (ab:List Ab):Nat→St→Int→Tr→Option St
 |0,_,_,_=>none
 |n+1,s,blk,t=>
  if 1000000<wE (n+1) (sE t) then none else
  if (sH t).1=1∨(sH t).1=2 then put s blk (sAt t) ⟨1,Cd.nmb s.vs (bs (sH t).2.1),0,0,0,⟨#[]⟩,stps s.vs (n+1) (sE t),[],0,0,0⟩
  else if (sH t).1=3 then put s blk (sAt t) ⟨2,0,0,0,0,⟨#[]⟩,stps s.vs (n+1) (sE t),[],0,0,0⟩
  else if (sH t).1=4 then if 1000000<(sH t).2.2.2.1.length then none else put s blk (sAt t) ⟨3,Cd.nmb s.vs (bs (sH t).2.1),Cd.nmb s.vs (bs (sH t).2.2.1),(sH t).2.2.2.2,0,bs (sH t).2.2.2.1,[],[],0,0,0⟩
  else if (sH t).1=5 then put s blk (sAt t) ⟨4,Cd.nmb s.vs (bs (sH t).2.1),Cd.nmb s.vs (bs (sH t).2.2.1),0,0,⟨#[]⟩,[],[],0,0,0⟩
  else if (sH t).1=6 then match sE t with
   |[]=>none
   |x::_=>match vat s.vs (Cd.nmb s.vs (bs (sH t).2.1)) with
    |none=>none
    |some y=>if y.2=⟨#[115,105]⟩ then put s blk (sAt t) ⟨5,Cd.nmb s.vs (bs (sH t).2.1),0,0,0,⟨#[]⟩,stps s.vs (n+1) [x],[],0,0,0⟩ else put s blk (sAt t) ⟨6,Cd.nmb s.vs (bs (sH t).2.1),Cd.nmb s.vs (bs (eH x).2.1),0,0,⟨#[]⟩,[],[],0,0,0⟩
  else if (sH t).1=7∨(sH t).1=8∨(sH t).1=9 then put s blk (sAt t) ⟨(sH t).1,Cd.nmb s.vs (bs (sH t).2.1),0,0,0,⟨#[]⟩,[],[],0,0,0⟩
  else if (sH t).1=10 then match ab.findIdx? (fun g=>decide (g.1=bs (sH t).2.1)) with
   |none=>none
   |some k=>(sps s (n+1) ((ab[k]?.map (·.2)).getD []) 0 (sE t)).bind fun q=>put s blk (sAt t) ⟨10,k,0,0,0,⟨#[]⟩,[],q,0,0,0⟩
  else if (sH t).1=11 then either (stmt ab n) s blk (sAt t) ⟨11,Cd.nmb s.vs (bs (sH t).2.1),Cd.nmb s.vs (bs (sH t).2.2.1),0,0,⟨#[]⟩,[],[],0,0,0⟩ (sB t) (sO t) [bs (sH t).2.1]
  else if (sH t).1=12 then loop (stmt ab n) s blk (sAt t) ⟨11,Cd.nmb s.vs (bs (sH t).2.1),Cd.nmb s.vs (bs (sH t).2.2.1),0,0,⟨#[]⟩,[],[],0,0,0⟩ (2,Cd.nmb s.vs (bs (sH t).2.2.1),0) (sB t) [bs (sH t).2.1]
  else if (sH t).1=13 then match sE t with
   |[]=>none
   |x::_=>if 1000000≤s.vs.length then none else
    (put ⟨s.vs++[(⟨#[]⟩,⟨#[105]⟩)],s.bs,s.is⟩ blk (sAt t) ⟨12,s.vs.length,0,0,0,⟨#[]⟩,stps (s.vs++[(⟨#[]⟩,⟨#[105]⟩)]) (n+1) (sE t),[],0,0,0⟩).bind fun s1=>
     loop (stmt ab n) s1 blk (sAt t) ⟨13,s.vs.length,0,0,0,⟨#[]⟩,[],[],0,0,0⟩ (5,0,Cd.most (eH x).1 (eH x).2.2) (sB t) []
  else if (sH t).1=14 then either (stmt ab n) s blk (sAt t) ⟨14,0,0,0,0,⟨#[]⟩,stps s.vs (n+1) (sE t),[],0,0,0⟩ (sB t) (sO t) []
  else some s
def made (ab:List Ab) (n:Nat) (g:Tr) (vs:List Vr):Option St:=
 if 1000000<(gN g).length∨1000000<vs.length∨1000000<(gP g).length then none else within (stmt ab n) ⟨vs,[],[]⟩ 0 (gAt g) (1,0,0) (gB g) fun s nb=>(over s nb (gAt g) ((gP g).map fun p=>bs (pH p).1)).bind fun s2=>put s2 nb (gAt g) ⟨17,0,0,0,0,⟨#[]⟩,[],[],0,0,0⟩
def proc (g:Tr) (s:St):Cd.Pr:=⟨bs (gN g),s.vs,(gP g).length,s.bs,s.is⟩
def lowerGo (n:Nat):List Cd.Pr→List Tr→List (List Vr)→Option (List Cd.Pr)
 |ps,g::r,vs::w=>(made (ps.map fun p=>(p.name,p.vars)) n g vs).bind fun s=>lowerGo n (ps++[proc g s]) r w
 |ps,_,_=>some ps
end Go.Proofs.YtcdcoiobpbdmpaaGreatDoor.Lw
namespace Go.Proofs.YtcdcoiobpbdmpaaGreatDoor
open Go.RowKit
def ob (a:Option Addr):Option Nat:=a.map (·.block)
theorem ob_own (a:Option Addr) (n c:Nat):(Value.slice a n c).ownBlock=ob a:=by cases a<;> rfl
theorem own_keepT {t z B:Nat} {w w':World} {v:Value} {n:Nat} {xs:List Value} (h:w.ownsRow B t z v n xs) (hk: ∀ g,v.ownBlock=some g→w'.heap[g]? =w.heap[g]?):w'.ownsRow B t z v n xs:=by
 refine ⟨h.1,?_⟩
 rcases h.2 with h|⟨g,cap,cur,hv,hb,hg,rest⟩
 ·exact .inl h
 ·exact .inr ⟨g,cap,cur,hv,hb,by rw [hk g (by rw [hv];rfl)];exact hg,rest⟩
structure MA where
 av:Option Addr
 cv:Nat
 ab:Option Addr
 cb:Nat
 ai:Option Addr
 ci:Nat
def MA.mut (m:MA) (g j:Nat):Prop:=j=g∨ob m.av=some j∨ob m.ab=some j∨ob m.ai=some j
def ERn (w:World) (N:Nat→Prop) (v:Value) (E:List (Int × Int)):Prop:=ER w v E∧ ∀ j,v.ownBlock=some j→N j
theorem ERn.nil (w:World) (N:Nat→Prop):ERn w N (.slice none 0 0) []:=⟨⟨none,0,rfl,fun h=>absurd rfl h⟩,fun j h=>absurd h (by simp [Value.ownBlock])⟩
theorem ERn.up {w w':World} {N N':Nat→Prop} {v:Value} {E:List (Int × Int)} (h:ERn w N v E) (hk:Kx N w w') (hN: ∀ j,N j→N' j):ERn w' N' v E:=⟨h.1.keepX hk h.2,fun j hj=>hN j (h.2 j hj)⟩
def AGn (w:World) (N:Nat→Prop) (v:Value) (l:List (List (Int × Int) × Int)):Prop:=
 ∃ a c,v= .slice a l.length c∧(∀ j,v.ownBlock=some j→N j)∧(l ≠ []→ ∃ g o,a=some ⟨g,o,none⟩∧ ∀ (k:Nat) x,l[k]? =some x→(∃ ae ce,w.cell? ⟨g,o+k * 2,none⟩=some (.slice ae x.1.length ce)∧ERn w N (.slice ae x.1.length ce) x.1)∧w.cell? ⟨g,o+k * 2+1,none⟩=some (.int .i64 x.2))
theorem AGn.nil (w:World) (N:Nat→Prop):AGn w N (.slice none 0 0) []:=⟨none,0,rfl,⟨fun j h=>absurd h (by simp [Value.ownBlock]),fun h=>absurd rfl h⟩⟩
theorem AGn.up {w w':World} {N N':Nat→Prop} {v:Value} {l:List (List (Int × Int) × Int)} (h:AGn w N v l) (hk:Kx N w w') (hN: ∀ j,N j→N' j):AGn w' N' v l:=by
 obtain ⟨a,c,h1,h2,h3⟩:=h
 refine ⟨a,c,h1,fun j hj=>hN j (h2 j hj),fun hn=> ?_⟩
 obtain ⟨g,o,h4,h5⟩:=h3 hn
 have hg:N g:=h2 g (by rw [h1,h4];rfl)
 refine ⟨g,o,h4,fun k x hx=> ?_⟩
 obtain ⟨⟨ae,ce,h6,h7⟩,h8⟩:=h5 k x hx
 exact ⟨⟨ae,ce,hk.cell h6 hg,h7.up hk hN⟩,hk.cell h8 hg⟩
theorem AGn.agR {w:World} {N:Nat→Prop} {v:Value} {l:List (List (Int × Int) × Int)} (h:AGn w N v l):AgR w v l:=by
 obtain ⟨a,c,h1,h2,h3⟩:=h
 refine ⟨a,c,h1,fun hn=> ?_⟩
 obtain ⟨g,o,h4,h5⟩:=h3 hn
 refine ⟨g,o,h4,fun k x hx=> ?_⟩
 obtain ⟨⟨ae,ce,h6,h7⟩,h8⟩:=h5 k x hx
 exact ⟨⟨ae,ce,h6,h7.1⟩,h8⟩
def IX (w:World) (N:Nat→Prop) (x:Cd.In) (cs:List Value):Prop:=
 ∃ ae ce aa ca,cs=Cd.pcl x ae ce aa ca x.bk x.at'∧ERn w N (.slice ae x.e.length ce) x.e∧AGn w N (.slice aa x.args.length ca) x.args
theorem IX.up {w w':World} {N N':Nat→Prop} {x:Cd.In} {cs:List Value} (h:IX w N x cs) (hk:Kx N w w') (hN: ∀ j,N j→N' j):IX w' N' x cs:=by
 obtain ⟨ae,ce,aa,ca,h1,h2,h3⟩:=h
 exact ⟨ae,ce,aa,ca,h1,h2.up hk hN,h3.up hk hN⟩
theorem IX.len {w:World} {N:Nat→Prop} {x:Cd.In} {cs:List Value} (h:IX w N x cs):cs.length=11:=by
 obtain ⟨ae,ce,aa,ca,h1,_⟩:=h
 rw [h1];rfl
structure MC where
 g:Nat
 J:Nat→Prop
 nm:ByteArray
 ps:Int
 uA:Value
def Cd.vcl (x:ByteArray × ByteArray):List Value:=[.string x.1,.string x.2]
def Cd.bcl (x:Int × Int × Int × Int):List Value:=[.int .i64 x.1,.int .i64 x.2.1,.int .i64 x.2.2.1,.int .i64 x.2.2.2]
structure MK (C:MC) (m:MA) (s:Lw.St) (bk at':Int) (w:World):Prop where
 c0:w.cell? ⟨C.g,0,none⟩=some (.string C.nm)
 c1:w.cell? ⟨C.g,1,none⟩=some (.slice m.av s.vs.length m.cv)
 c2:w.cell? ⟨C.g,2,none⟩=some (.int .i64 C.ps)
 c3:w.cell? ⟨C.g,3,none⟩=some (.slice m.ab s.bs.length m.cb)
 c4:w.cell? ⟨C.g,4,none⟩=some (.slice m.ai s.is.length m.ci)
 c5:w.cell? ⟨C.g,5,none⟩=some C.uA
 c6:w.cell? ⟨C.g,6,none⟩=some (.int .i64 bk)
 c7:w.cell? ⟨C.g,7,none⟩=some (.int .i64 at')
 ov:w.ownsRow 0 98 2 (.slice m.av s.vs.length m.cv) s.vs.length (s.vs.flatMap Cd.vcl)
 obk:w.ownsRow (C.g+1) 92 4 (.slice m.ab s.bs.length m.cb) s.bs.length (s.bs.flatMap Cd.bcl)
 oi: ∃ iv:List (List Value),w.ownsRow (C.g+1) 44 11 (.slice m.ai s.is.length m.ci) s.is.length iv.flatten∧iv.length=s.is.length∧ ∀ (k:Nat) x,s.is[k]? =some x→ ∃ cs,iv[k]? =some cs∧IX w (fun j=>j<w.heap.size∧ ¬ m.mut C.g j∧ ¬ C.J j) x cs
 d1: ∀ j,ob m.av=some j→j ≠ C.g∧ob m.ab ≠ some j∧ob m.ai ≠ some j
 d2: ∀ j,ob m.ab=some j→ob m.ai ≠ some j
 thaw: ∀ k,w.frozen? ⟨C.g,k,none⟩=false
 gl:C.g<w.heap.size
 vl:s.vs.length≤1000000
 jl: ∀ j,C.J j→j<w.heap.size
structure MS (g:Nat) (m:MA) (w:World) (m':MA) (w':World):Prop where
 kx:Kx (fun j=> ¬ m.mut g j) w w'
 mu: ∀ j,m'.mut g j→m.mut g j∨w.heap.size≤j
theorem MS.of_below {g:Nat} {m:MA} {w w':World} (h:Below w.heap.size w w'):MS g m w m w':=⟨Kx.of_below h,fun _ h=> .inl h⟩
theorem MS.refl (g:Nat) (m:MA) (w:World):MS g m w m w:=⟨Kx.refl _ _,fun _ h=> .inl h⟩
theorem MS.trans {g:Nat} {m m1 m2:MA} {w w1 w2:World} (h:MS g m w m1 w1) (k:MS g m1 w1 m2 w2):MS g m w m2 w2:=by
 refine ⟨⟨k.kx.os.trans h.kx.os,k.kx.tape.trans h.kx.tape,k.kx.output.trans h.kx.output,Nat.le_trans h.kx.size k.kx.size,fun i hi hn=> ?_⟩,fun j hj=> ?_⟩
 ·refine (k.kx.block i (Nat.lt_of_lt_of_le hi h.kx.size) (fun hm=> ?_)).trans (h.kx.block i hi hn)
  rcases h.mu i hm with h1|h1
  ·exact hn h1
  ·omega
 ·rcases k.mu j hj with h1|h1
  ·exact h.mu j h1
  ·exact .inr (Nat.le_trans h.kx.size h1)
theorem MS.cell {g:Nat} {m m':MA} {w w':World} (h:MS g m w m' w') {p:Addr} {v:Value} (hv:w.cell? p=some v) (hX: ¬ m.mut g p.block):w'.cell? p=some v:=h.kx.cell hv hX
theorem MK.lt {C:MC} {m:MA} {s:Lw.St} {bk at':Int} {w:World} (h:MK C m s bk at' w): ∀ j,m.mut C.g j→j<w.heap.size:=by
 rintro j (rfl|h1|h1|h1)
 ·exact h.gl
 ·exact (h.ov.lt j (by rw [ob_own];exact h1)).2
 ·exact (h.obk.lt j (by rw [ob_own];exact h1)).2
 ·obtain ⟨iv,h2,_⟩:=h.oi
  exact (h2.lt j (by rw [ob_own];exact h1)).2
theorem MK.new {C:MC} {m:MA} {s:Lw.St} {bk at':Int} {w:World} (h:MK C m s bk at' w) {j:Nat} (hj:w.heap.size≤j): ¬ m.mut C.g j:=fun hm=>by have:=h.lt j hm;omega
theorem MK.below {C:MC} {m:MA} {s:Lw.St} {bk at':Int} {w w':World} (h:MK C m s bk at' w) (hb:Below w.heap.size w w'):MK C m s bk at' w':=by
 obtain ⟨iv,i1,i2,i3⟩:=h.oi
 have hl:=h.lt
 refine ⟨bsome hb h.c0,bsome hb h.c1,bsome hb h.c2,bsome hb h.c3,bsome hb h.c4,bsome hb h.c5,bsome hb h.c6,bsome hb h.c7,own_keepT h.ov (fun j hj=>hb.block j (h.ov.lt j hj).2),own_keepT h.obk (fun j hj=>hb.block j (h.obk.lt j hj).2),⟨iv,own_keepT i1 (fun j hj=>hb.block j (i1.lt j hj).2),i2,fun k x hx=> ?_⟩,h.d1,h.d2,fun k=> ?_,Nat.lt_of_lt_of_le h.gl hb.size,h.vl,fun j hj=>Nat.lt_of_lt_of_le (h.jl j hj) hb.size⟩
 ·obtain ⟨cs,h1,h2⟩:=i3 k x hx
  exact ⟨cs,h1,h2.up (Kx.of_below hb) (fun j hj=>⟨Nat.lt_of_lt_of_le hj.1 hb.size,hj.2⟩)⟩
 ·exact (World.frozen?_of_block (w:=w) (a:=⟨C.g,k,none⟩) (hb.block C.g h.gl)).trans (h.thaw k)
theorem flatMap_cell {α:Type} {f:α→List Value} {z:Nat} (hz: ∀ x,(f x).length=z) (l:List α) (k:Nat) (x:α) (hx:l[k]? =some x) (j:Nat) (u:Value) (hu:(f x)[j]? =some u):(l.flatMap f)[k * z+j]? =some u:=by
 induction l generalizing k with
 |nil=>simp at hx
 |cons y r ih=>
  have hj:j<z:=by rw [←hz x];exact (List.getElem?_eq_some_iff.1 hu).1
  rw [List.flatMap_cons]
  cases k with
  |zero=>
   simp at hx
   subst hx
   rw [Nat.zero_mul,Nat.zero_add,List.getElem?_append_left (by rw [hz];exact hj)]
   exact hu
  |succ k=>
   rw [List.getElem?_append_right (by rw [hz,Nat.succ_mul];omega),hz,show (k+1) * z+j - z=k * z+j from by rw [Nat.succ_mul];omega]
   exact ih k (by simpa using hx)
theorem MK.vaR {C:MC} {m:MA} {s:Lw.St} {bk at':Int} {w:World} (h:MK C m s bk at' w):VaR w (.slice m.av s.vs.length m.cv) s.vs:=by
 refine ⟨m.av,m.cv,rfl,fun hn=> ?_⟩
 rcases h.ov.2 with ⟨_,h0⟩|⟨g,cap,cur,hv,_⟩
 ·exact absurd (List.length_eq_zero_iff.1 h0) hn
 ·obtain ⟨h1,-⟩:m.av=some ⟨g,0,none⟩∧m.cv=cap:=by simpa using hv
  refine ⟨g,0,h1,fun k x hx=> ?_⟩
  have hc:=h.ov.cells (g:=g) (by rw [h1];rfl)
  have e0:=hc (k * 2) (.string x.1) (by have:=flatMap_cell (f:=Cd.vcl) (z:=2) (fun _=>rfl) s.vs k x hx 0 (.string x.1) rfl;simpa using this)
  have e1:=hc (k * 2+1) (.string x.2) (flatMap_cell (f:=Cd.vcl) (z:=2) (fun _=>rfl) s.vs k x hx 1 (.string x.2) rfl)
  rw [add_off] at e0 e1
  simpa using ⟨e0,e1⟩
theorem Lw.put_some {s s':Lw.St} {bk at':Int} {x:Cd.In} (h:Lw.put s bk at' x=some s'):s.is.length<1000000∧s'=⟨s.vs,s.bs,s.is++[⟨x.op,x.a,x.b,x.n,x.to,x.t,x.e,x.args,bk,x.lp,at'⟩]⟩:=by
 by_cases hl:s.is.length<1000000
 ·rw [Lw.put,if_pos hl] at h
  exact ⟨hl,(Option.some.inj h).symm⟩
 ·rw [Lw.put,if_neg hl] at h
  cases h
theorem mput_any {C:MC} {m:MA} {s s':Lw.St} {bk at':Int} {w:World} (h:MK C m s bk at' w) (x:Cd.In) (hs:Lw.put s bk at' x=some s') (ae:Option Addr) (ce:Nat) (aa:Option Addr) (ca:Nat)
  (hE:ERn w (fun j=>j<w.heap.size∧ ¬ m.mut C.g j∧ ¬ C.J j) (.slice ae x.e.length ce) x.e) (hA:AGn w (fun j=>j<w.heap.size∧ ¬ m.mut C.g j∧ ¬ C.J j) (.slice aa x.args.length ca) x.args):
  Calls Tryz.prog 30 #[.pointer (some ⟨C.g,0,none⟩),IV x ae ce aa ca] w fun e w'=>e= .returned (.int .i64 s.is.length)∧ ∃ m',MK C m' s' bk at' w'∧MS C.g m w m' w':=by
 obtain ⟨iv,i1,i2,i3⟩:=h.oi
 obtain ⟨hlen,rfl⟩:=Lw.put_some hs
 refine (put_any x ae ce aa ca (C.g+1) C.g m.ai s.is.length m.ci iv.flatten bk at' w h.c4 h.c6 h.c7 (h.thaw 4) (by omega) h.gl (by omega) i1).mono ?_
 rintro e w' ⟨rfl,gn,cap,k4,ko,ka,km⟩
 have hx:Kx (fun j=>j ≠ C.g∧ob m.ai ≠ some j) w w':=by
  have:=km.kx
  rw [ob_own] at this
  exact this
 have hka:ob m.ai=some gn∨w.heap.size≤gn:=by rw [ob_own] at ka;exact ka
 have hg: ∀ j,m.mut C.g j→j<w.heap.size:=h.lt
 refine ⟨rfl,⟨m.av,m.cv,m.ab,m.cb,some ⟨gn,0,none⟩,cap⟩,⟨(km.cell 0 (by decide)).trans h.c0,(km.cell 1 (by decide)).trans h.c1,(km.cell 2 (by decide)).trans h.c2,(km.cell 3 (by decide)).trans h.c3,?_,(km.cell 5 (by decide)).trans h.c5,(km.cell 6 (by decide)).trans h.c6,(km.cell 7 (by decide)).trans h.c7,?_,?_,⟨iv++[Cd.pcl x ae ce aa ca bk at'],?_,?_,?_⟩,?_,?_,fun k=>(km.thaw k).trans (h.thaw k),Nat.lt_of_lt_of_le h.gl hx.size,h.vl,fun j hj=>Nat.lt_of_lt_of_le (h.jl j hj) hx.size⟩,⟨hx.mono (fun j _ hj=>⟨fun e=>hj (.inl e),fun e=>hj (.inr (.inr (.inr e)))⟩),?_⟩⟩
 ·simpa using k4
 ·exact own_keepT h.ov (fun j hj=>hx.block j (h.ov.lt j hj).2 ⟨(h.d1 j (by rw [←ob_own m.av s.vs.length m.cv];exact hj)).1,(h.d1 j (by rw [←ob_own m.av s.vs.length m.cv];exact hj)).2.2⟩)
 ·exact own_keepT h.obk (fun j hj=>hx.block j (h.obk.lt j hj).2 ⟨by have:=(h.obk.lt j hj).1;omega,h.d2 j (by rw [←ob_own m.ab s.bs.length m.cb];exact hj)⟩)
 ·rw [List.length_append,List.flatten_append];simpa using ko
 ·simp [i2]
 ·intro k y hy
  have hup: ∀ j,(j<w.heap.size∧ ¬ m.mut C.g j∧ ¬ C.J j)→(j<w'.heap.size∧ ¬ MA.mut ⟨m.av,m.cv,m.ab,m.cb,some ⟨gn,0,none⟩,cap⟩ C.g j∧ ¬ C.J j):=by
   rintro j ⟨h1,h2,h2J⟩
   refine ⟨Nat.lt_of_lt_of_le h1 hx.size,?_,h2J⟩
   rintro (h3|h3|h3|h3)
   ·exact h2 (.inl h3)
   ·exact h2 (.inr (.inl h3))
   ·exact h2 (.inr (.inr (.inl h3)))
   ·have e:gn=j:=by simpa [ob] using h3
    rcases hka with h4|h4
    ·exact h2 (.inr (.inr (.inr (by rw [h4,e]))))
    ·omega
  have hkx:Kx (fun j=>j<w.heap.size∧ ¬ m.mut C.g j∧ ¬ C.J j) w w':=hx.mono (fun j _ hj=>⟨fun e=>hj.2.1 (.inl e),fun e=>hj.2.1 (.inr (.inr (.inr e)))⟩)
  rcases Nat.lt_or_ge k s.is.length with hk|hk
  ·rw [List.getElem?_append_left hk] at hy
   obtain ⟨cs,h1,h2⟩:=i3 k y hy
   exact ⟨cs,by rw [List.getElem?_append_left (by omega)];exact h1,h2.up hkx hup⟩
  ·rw [List.getElem?_append_right hk] at hy
   have hk0:k - s.is.length=0:=by
    have:=(List.getElem?_eq_some_iff.1 hy).1
    simp at this;omega
   rw [hk0] at hy
   obtain rfl:_=y:=by simpa using hy
   refine ⟨_,by rw [List.getElem?_append_right (by omega),show k - iv.length=0 from by omega];rfl,ae,ce,aa,ca,rfl,hE.up hkx hup,hA.up hkx hup⟩
 ·intro j hj
  refine ⟨(h.d1 j hj).1,(h.d1 j hj).2.1,fun e=> ?_⟩
  have e2:gn=j:=by simpa [ob] using e
  rcases hka with h4|h4
  ·exact (h.d1 j hj).2.2 (by rw [h4,e2])
  ·have:=hg j (.inr (.inl hj));omega
 ·intro j hj e
  have e2:gn=j:=by simpa [ob] using e
  rcases hka with h4|h4
  ·exact h.d2 j hj (by rw [h4,e2])
  ·have:=hg j (.inr (.inr (.inl hj)));omega
 ·rintro j (h3|h3|h3|h3)
  ·exact .inl (.inl h3)
  ·exact .inl (.inr (.inl h3))
  ·exact .inl (.inr (.inr (.inl h3)))
  ·have e:gn=j:=by simpa [ob] using h3
   rcases hka with h4|h4
   ·exact .inl (.inr (.inr (.inr (by rw [h4,e]))))
   ·exact .inr (by omega)
end Go.Proofs.YtcdcoiobpbdmpaaGreatDoor
