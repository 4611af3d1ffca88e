import Derived.Test.YtcdcoiobpbdmpaaGreatDoorMbs
import Derived.Test.YtcdcoiobpbdmpaaGreatDoorMac
import Derived.Test.YtcdcoiobpbdmpaaGreatDoorMaa
import Derived.Defers
import Derived.Recover
namespace Go.Proofs.YtcdcoiobpbdmpaaGreatDoor
open Go.RowKit
namespace Bg
def par (T:List Tk.Tok) (acc:List (List UInt8 × List UInt8)) (n:Nat) (s:Sx.St):Option (List (List UInt8 × List UInt8) × Nat × Sx.St):=(tok 2 T n).bind fun a=>(ty T 9 [] a.2).bind fun y=>if acc.length<9 then some (acc++[(a.1.text,y.1)],y.2,s) else none
def tp (p:List UInt8 × List UInt8):Sx.Tr:=Sx.tP p.1 p.2
def stage (K:List Nat) (e:Nat) (T:List Tk.Tok) (f:Nat) (n:Nat) (s:Sx.St):Option (Sx.Tr × Nat × Sx.St):=
 (skp Sx.wStage T n).bind fun m=>(tok 2 T m).bind fun a=>(br (par T) T [] a.2 s).bind fun p=>(block K e T f p.2.1 p.2.2).bind fun b=>some (Sx.tG a.1.text (Sx.place e (T.drop n)) (p.1.map tp) b.1,b.2.1,b.2.2)
end Bg
def pcs (acc:List (List UInt8 × List UInt8)):List Value:=acc.flatMap fun p=>[.string (bs p.1),.string (bs p.2)]
theorem pcs_rw (acc:List (List UInt8 × List UInt8)):Rw RP (acc.map Bg.tp) (pcs acc):=by
 induction acc with
 |nil=>rfl
 |cons p r ih=>exact ⟨[_,_],pcs r,rfl,⟨p.1,p.2,rfl,rfl⟩,ih⟩
structure GI (c:Cx) (B bx gb:Nat) (nm:ByteArray) (at':Int) (w:World) (acc:List (List UInt8 × List UInt8)) (u:Value):Prop where
 x:SB w gb [.string nm,.int .i64 at',u,.slice none 0 0]
 b0:w.cell? ⟨bx,0,none⟩=some (.pointer (some ⟨c.rb,0,none⟩))
 own:w.ownsRow B 55 2 u acc.length (pcs acc)
 bxg:bx ≠ gb
 ap:c.apart gb
 bxr:bx ≠ c.rb
 blt:bx<B
 glt:gb<B
 blw:c.below B
theorem GI.go {c:Cx} {B bx gb:Nat} {nm:ByteArray} {at':Int} {w w1:World} {acc:List (List UInt8 × List UInt8)} {u:Value} (h:GI c B bx gb nm at' w acc u) (hk:Kp [c.rb] w w1):GI c B bx gb nm at' w1 acc u:=
 { h with
   x:=h.x.keep hk (by have:=h.ap.1;simp;omega)
   b0:=hk.some h.b0 (by simpa using h.bxr)
   own:=own_keep h.own hk (by simpa using h.blw.1) }
theorem GI.row {c:Cx} {B bx gb:Nat} {nm:ByteArray} {at':Int} {w:World} {acc:List (List UInt8 × List UInt8)} {u:Value} (h:GI c B bx gb nm at' w acc u): ∃ a n cap,u= .slice a n cap:=by
 rcases h.own.2 with ⟨hv,_⟩|⟨g,cap,cur,hv,_⟩
 ·exact ⟨_,_,_,hv⟩
 ·exact ⟨_,_,_,hv⟩
theorem GI.add {c:Cx} {B bx gb:Nat} {nm:ByteArray} {at':Int} {w w1:World} {acc:List (List UInt8 × List UInt8)} {u:Value} (h:GI c B bx gb nm at' w acc u) (hg:w.grownBy w1 u.ownBlock) {v:Value} (p:List UInt8 × List UInt8) (hown:w1.ownsRow B 55 2 v (acc.length+1) (pcs acc++[.string (bs p.1),.string (bs p.2)])):
  GI c B bx gb nm at' (w1.setCell ⟨gb,2,none⟩ v) (acc++[p]) v:=by
 have hrow:=own_blk h.own
 exact { h with
  x:=(h.x.keep (Kp.of_grown hg) (fun hm=>by have:=hrow _ hm;have:=h.glt;omega)).set (j:=2) rfl v
  b0:=(World.cell?_setCell_far _ _ _ _ h.bxg.symm).trans ((Kp.of_grown hg).some h.b0 (fun hm=>by have:=hrow _ hm;have:=h.blt;simp only at *;omega))
  own:=by
   rw [List.length_append]
   have:=own_keep hown (S:=[gb]) (Kp.rb (Kp.refl _ _) 2 v) (by simpa using h.glt)
   simpa [pcs] using this }
theorem cells_two_new (w:World) (n:Nat) (hn:n=w.heap.size) (x y:Value) (t:TypeId): ∀ (j:Nat) (v:Value),[x,y][j]? =some v→(w.alloc (.cells #[x,y] t)).cell? ((⟨n,0,none⟩:Addr).add j)=some v:=by
 intro j v hj
 subst hn
 rw [Addr.add_mid]
 match j,hj with
 |0,hj=>simp at hj;subst hj;simp [go_sem]
 |1,hj=>simp at hj;subst hj;simp [go_sem]
set_option maxRecDepth 100000 in
set_option maxHeartbeats 2000000 in
theorem par_ok {c:Cx} {bx gb:Nat} {nm:ByteArray} {at':Int} {w0:World} (w:World) (acc:List (List UInt8 × List UInt8)) (n:Nat) (s:Sx.St) (acc':List (List UInt8 × List UInt8)) (n':Nat) (s':Sx.St) (hi: ∃ u,GI c w0.heap.size bx gb nm at' w acc u) (h:RD c w n s) (hk0:Kp [gb,c.rb] w0 w) (hx:Bg.par c.full acc n s=some (acc',n',s')):
  Calls Tryz.prog 94 #[.pointer (some ⟨bx,0,none⟩),.pointer (some ⟨gb,0,none⟩)] w fun e w2=>e= .returned (.tuple #[])∧(∃ u,GI c w0.heap.size bx gb nm at' w2 acc' u)∧RD c w2 n' s'∧Kp [gb,c.rb] w0 w2:=by
 obtain ⟨i0,hi0,hz0,hz1,hz2⟩:=info_parts Tryz.infoParam
 obtain ⟨u,hG⟩:=hi
 obtain ⟨aP,nP,cP,rfl⟩:=hG.row
 obtain ⟨⟨t,n1⟩,h1,hx⟩:=obind hx
 obtain ⟨⟨y,n2⟩,h2,hx⟩:=obind hx
 rcases oif hx with ⟨h9,hx⟩|⟨_,hx⟩
 rotate_left
 ·cases hx
 cases hx
 have H1:=hide h1
 have H2:=hide h2
 have HG:=hide hG
 have HH:=hide h
 have HK0:=hide hk0
 have b0:=hG.b0
 have g1:=hG.bxg
 have g2:=hG.bxr
 have g3:=hG.ap.1
 clear h hG h1 h2 hk0
 go_enter Tryz.func94,Tryz.ntmps94
 go_wp2_with fail
 refine (name_ok H1.out HH.out).mono ?_
 rintro e w1 ⟨rfl,hd1,hk1⟩
 have HG1:=hide (HG.out.go hk1)
 have HK1:=hide hk1
 have HD1:=hide hd1
 have e0:=HG1.out.b0
 have x2:=HG1.out.x.cs 2 _ rfl
 have xf:=HG1.out.x.fz
 clear hd1 hk1 b0
 go_wp2
 go_region_law ((first
  |(refine step_append_lies _ rfl _ _ 50 rfl w0.heap.size 55 i0 (.agg #[.string ⟨#[]⟩,.string ⟨#[]⟩]) 2 32 Tryz.underlying50 hi0 hz0 hz1 hz2 rfl (by decide) (.slice aP nP cP) acc.length (pcs acc) (by rfl) (by exact HG2.out.own.alloc _) ⟨w2.heap.size,0,none⟩ 1 1 [.string (bs t.text),.string (bs y)] (by rfl) rfl (cells_two_new _ _ rfl _ _ _) (by intro u hu;simp at hu;rcases hu with rfl|rfl<;> rfl) (by decide) (by unfold maxLen;omega) (by omega) (by have:=HK2.out.size;have:=HK0.out.size;simp;omega) _ rfl ?_;intro g cap w3 hown hgrow hat hlt;have HOW:=hide hown;have HGR:=hide hgrow;have hg3:=(HG2.out.x.keep (S:=[]) ((Kp.refl _ _).alloc _) (by simp)).keep (Kp.of_grown hgrow) (fun hm=>by have h1:=own_blk HG2.out.own _ hm;have h2:=HG2.out.glt;omega);have z2:=hg3.cs 2 _ rfl;have zf:=hg3.fz;clear hown hgrow hat hg3)
  |(refine step_cex rfl 95 (args:= #[.pointer (some ⟨c.rb,0,none⟩)]) (by go_simp) (typeText_ok H2.out HD1.out.drew) ?_;rintro w2 ⟨hd2,hk2⟩;have HG2:=hide ((HG1.out.go (Kp.refl _ _).drew).go hk2);have HD2:=hide hd2;have HK2:=hide (HK1.out.drew.trans hk2);have e02:=HG2.out.b0;have x22:=HG2.out.x.cs 2 _ rfl;have xf2:=HG2.out.x.fz;have glt2:gb<w2.heap.size:=HG2.out.x.lt;have blt2:bx<w2.heap.size:=World.block_lt_of_cell? w2 _ e02;clear hd2 hk2)))
 all_goals
  go_wp2
  go_end0
  have hrow:=own_blk HG2.out.own
  refine ⟨rfl,⟨_,(HG2.out.go ((Kp.refl _ _).alloc _)).add HGR.out (t.text,y) HOW.out⟩,((HD2.out.alloc _).grown HGR.out hrow HG2.out.blw).set_apart HG2.out.ap _ _,?_⟩
  exact Kp.rb (((HK0.out.trans (HK2.out.mono (by simp))).alloc _).grown HGR.out (fun k hk=> .inl (hrow k (by rw [hk];simp)))) _ _
structure GB (c:Cx) (w0 w:World) (n:Nat) (s:Sx.St) (vs:List Value):Prop where
 rd:RD c w n s
 kp:Kp [c.rb] w0 w
 b0:w.cell? ⟨w0.heap.size,0,none⟩=some (.pointer (some ⟨c.rb,0,none⟩))
 z:SB w (w0.heap.size+1) [.string ⟨#[]⟩,.int .i64 0,.slice none 0 0,.slice none 0 0]
 x:SB w (w0.heap.size+1+1) vs
 rlt:c.below w0.heap.size
section
variable {c:Cx} {w0 w w1:World} {n n1:Nat} {s s1:Sx.St} {vs:List Value}
theorem GB.ap (h:GB c w0 w n s vs):c.apart (w0.heap.size+1+1):=⟨by have:=h.rlt.1;omega,fun hne=>by have:=h.rlt.2 hne;omega⟩
theorem GB.go (h:GB c w0 w n s vs) (hd:RD c w1 n1 s1) (hk:Kp [c.rb] w w1):GB c w0 w1 n1 s1 vs:=by
 have hl:=h.rlt.1
 exact ⟨hd,h.kp.trans hk,hk.some h.b0 (by simp;omega),h.z.keep hk (by simp;omega),h.x.keep hk (by simp;omega),h.rlt⟩
theorem GB.set {j:Nat} {u:Value} (h:GB c w0 w n s vs) (hu:vs[j]? =some u) (v:Value):GB c w0 (w.setCell ⟨w0.heap.size+1+1,j,none⟩ v) n s (vs.set j v):=
 have k:Kp [w0.heap.size+1+1] w (w.setCell ⟨w0.heap.size+1+1,j,none⟩ v):=Kp.rb (Kp.refl _ _) _ _
 ⟨h.rd.set_apart h.ap _ _,Kp.nb h.kp (by omega) _ _,k.some h.b0 (by simp;omega),h.z.keep k (by simp),h.x.set hu v,h.rlt⟩
end
def encG (w0:World) (w':World) (d:Sx.Tr) (v:Value):Prop:= ∃ m nm at' a0 x0 y0 a1 x1 y1,v= .agg #[.string nm,.int .i64 at',.slice a0 x0 y0,.slice a1 x1 y1]∧RG w' (fun b=>w0.heap.size≤b) m d [.string nm,.int .i64 at',.slice a0 x0 y0,.slice a1 x1 y1]
set_option maxRecDepth 100000 in
set_option maxHeartbeats 2000000 in
theorem stage_ok (K:List Nat) (f:Nat) (hBl:BlC K f) {c:Cx} {w:World} {n m:Nat} {s s':Sx.St} {d:Sx.Tr} (h:RD c w n s) (hx:Bg.stage K c.e c.full f n s=some (d,m,s')):
  Calls Tryz.prog 63 #[.pointer (some ⟨c.rb,0,none⟩)] w fun e w'=> ∃ v,encG w w' d v∧Ok c w v m s' e w':=by
 obtain ⟨n1,h1,hx⟩:=obind hx
 obtain ⟨⟨t,n2⟩,h2,hx⟩:=obind hx
 obtain ⟨⟨ps,n3,s3⟩,h3,hx⟩:=obind hx
 obtain ⟨⟨l,n4,s4⟩,h4,hx⟩:=obind hx
 cases hx
 have H1:=hide h1
 have H2:=hide h2
 have H3:=hide h3
 have H4:=hide h4
 have HH:=hide h
 have HB:=hide h.lt
 have HBl:=hide hBl
 have hr:=h.rlt
 have q3: ¬ c.rb=w.heap.size:=by omega
 have q4: ¬ c.rb=w.heap.size+1:=by omega
 have q5: ¬ c.rb=w.heap.size+1+1:=by omega
 clear h h1 h2 h3 h4 hx hBl
 generalize hpl:Sx.place c.e (c.full.drop n)=pl at *
 have HPL:=hide hpl
 clear hpl
 go_enter Tryz.func63,Tryz.ntmps63
 go_wp2_with fail
 refine (at_any c _ n s (by exact (HH.out.alloc _).alloc _)).mono ?_
 rintro e w1 ⟨rfl,k,rfl⟩
 rw [HPL.out]
 go_wp2_with fail
 refine (skip_ok ⟨#[115,116,97,103,101]⟩ H1.out (by exact (((HH.out.alloc _).alloc _).alloc _).drewN _)).mono ?_
 rintro e w2 ⟨rfl,hd,hk⟩
 have HG2:Hid (GB c w w2 n1 s [.string ⟨#[]⟩,.int .i64 pl,.slice none 0 0,.slice none 0 0]):=hide ⟨hd,(((((Kp.refl _ _).alloc _).alloc _).alloc _).drewN _).trans hk,hk.some (by simp [go_sem]) (by simp;omega),(((SB.new (w.alloc (.cells #[.pointer (some ⟨c.rb,0,none⟩)] 106)) _ (by simp) [.string ⟨#[]⟩,.int .i64 0,.slice none 0 0,.slice none 0 0] 53).keep (((Kp.refl [] _).alloc _).drewN _) (by simp)).keep hk (by simp;omega)),((SB.new ((w.alloc (.cells #[.pointer (some ⟨c.rb,0,none⟩)] 106)).alloc (.cells #[.string ⟨#[]⟩,.int .i64 0,.slice none 0 0,.slice none 0 0] 53)) (w.heap.size+1+1) (by simp) [.string ⟨#[]⟩,.int .i64 pl,.slice none 0 0,.slice none 0 0] 53).keep ((Kp.refl [] _).drewN _) (by simp)).keep hk (by simp;omega),HB.out⟩
 have b2:=HG2.out.b0
 clear hd hk
 go_wp2_with fail
 refine (name_ok H2.out HG2.out.rd).mono ?_
 rintro e w3 ⟨rfl,hd,hk⟩
 have hg:=HG2.out.go hd hk
 have x0:=hg.x.cs 0 _ rfl
 have xf:=hg.x.fz
 have b3:=hg.b0
 have l3:=hg.x.lt
 have HG3:=hide (hg.set (j:=0) rfl (.string (bs t.text)))
 clear hd hk hg b2
 have b0:=HG3.out.b0
 have hF: ∀ w',(callFunc 94 #[.pointer (some ⟨w.heap.size,0,none⟩),.pointer (some ⟨w.heap.size+1+1,0,none⟩)]).run Tryz.prog w'= .ok (.enter 94 #[.pointer (some ⟨w.heap.size,0,none⟩),.pointer (some ⟨w.heap.size+1+1,0,none⟩)]) w':=fun _=>rfl
 go_wp2_with fail
 have HG3':=HG3
 revert HG3'
 generalize w3.setCell ⟨w.heap.size+1+1,0,none⟩ (.string (bs t.text))=W3 at *
 intro HG3'
 have lW:w.heap.size+1+1<W3.heap.size:=HG3.out.x.lt
 refine (bracketed_ok 94 _ hF c [w.heap.size+1+1,c.rb] (by simp) (fun w' acc=> ∃ u,GI c W3.heap.size w.heap.size (w.heap.size+1+1) (bs t.text) pl w' acc u) (fun w1 w2 a h hk=>by obtain ⟨u,h⟩:=h;exact ⟨u,h.go hk⟩) (Bg.par c.full) W3 (fun w1 a n s a' n' s' hi hd hk hx=>par_ok w1 a n s a' n' s' hi hd hk hx) (a:=[]) ⟨_,HG3.out.x,HG3.out.b0,World.ownsRow_nil _ _ _ _,by omega,HG3.out.ap,by omega,by omega,by omega,⟨by omega,fun hne=>by have:=HB.out.2 hne;omega⟩⟩ HG3.out.rd H3.out).mono ?_
 rintro e w4 ⟨rfl,⟨u,hi⟩,hd,hk⟩
 obtain ⟨aP,nP,cP,rfl⟩:=hi.row
 have HG4:Hid (GB c w w4 n3 s3 [.string (bs t.text),.int .i64 pl,.slice aP nP cP,.slice none 0 0]):=hide ⟨hd,Kp.new ((HG3.out.kp.mono (by simp)).trans hk) (by omega),hi.b0,HG3.out.z.keep hk (by simp;omega),hi.x,HB.out⟩
 have HP4:=hide (Sl.of_own (P:=fun b=>W3.heap.size≤b) hi.own (by simp) (fun b hb=>hb) (pcs_rw ps))
 have b4:=hi.b0
 have s4:=hk.size
 clear hd hk hi b0 b3
 go_wp2_with fail
 refine (HBl.out c _ _ _ _ _ _ HG4.out.rd H4.out).mono ?_
 rintro e w5 ⟨v,⟨k5,hv⟩,rfl,hd,hk⟩
 obtain ⟨aB,cB,rfl⟩:=hv.slice
 have hg:=HG4.out.go hd hk
 have y0:=hg.x.cs 0 _ rfl
 have y1:=hg.x.cs 1 _ rfl
 have y2:=hg.x.cs 2 _ rfl
 have y3:=hg.x.cs 3 _ rfl
 have z0:=hg.z.cs 0 _ rfl
 have z1:=hg.z.cs 1 _ rfl
 have z2:=hg.z.cs 2 _ rfl
 have z3:=hg.z.cs 3 _ rfl
 have zf:=hg.z.fz
 have yf:=hg.x.fz
 have b5:=hg.b0
 have HG5:=hide (hg.set (j:=3) rfl (.slice aB l.length cB))
 have HV:=hide ((hv.base (P':=fun b=>w.heap.size+1+1<b) (fun b _ hb=>by omega)).keep (S:=[w.heap.size+1+1]) (Kp.rb (Kp.refl _ _) 3 (.slice aB l.length cB)) (by simp))
 have HP5:=hide (((HP4.out.keep hk (by simp;omega) (fun d c h=>h)).base (P':=fun b=>w.heap.size+1+1<b) (fun b _ hb=>by omega) (fun d c h=>⟨h,by obtain ⟨_,_,_,rfl⟩:=h;simp⟩)).keep (S:=[w.heap.size+1+1]) (Kp.rb (Kp.refl _ _) 3 (.slice aB l.length cB)) (by simp) (fun d c h=>h))
 clear hd hk hg hv b4
 go_wp2
 refine bodyPost_ret (v:= .agg #[.string (bs t.text),.int .i64 pl,.slice aP nP cP,.slice aB l.length cB]) (by simp [results,Tryz.results63,go_sem,z0,z1,z2,z3]) rfl ⟨_,⟨k5,_,_,_,_,_,_,_,_,rfl,t.text,pl,ps.map Bg.tp,l,_,_,rfl,rfl,?_,?_⟩,rfl,RD.sets HB.out (Nat.le_succ _) [_,_,_,_] _ 0 HG5.out.rd,Kp.sets (.inl (Nat.le_succ _)) [_,_,_,_] _ 0 HG5.out.kp⟩
 ·exact (HP5.out.keep (S:=[w.heap.size+1]) (Kp.sets (.inr (by simp)) [_,_,_,_] _ 0 (Kp.refl _ _)) (by simp) (fun d c h=>h)).base (fun b _ hb=>by omega) (fun d c h=>⟨h,by obtain ⟨_,_,_,rfl⟩:=h;simp⟩)
 ·exact (HV.out.keep (S:=[w.heap.size+1]) (Kp.sets (.inr (by simp)) [_,_,_,_] _ 0 (Kp.refl _ _)) (by simp)).base (fun b _ hb=>by omega)
end Go.Proofs.YtcdcoiobpbdmpaaGreatDoor
namespace Go.Proofs.YtcdcoiobpbdmpaaGreatDoor
open Go.RowKit
namespace Bg
def stages (K:List Nat) (e:Nat) (T:List Tk.Tok) (f:Nat):Nat→List Sx.Tr→Nat→Sx.St→Option (List Sx.Tr)
 |0,_,_,_=>none
 |q+1,acc,n,s=>if (T.drop n).isEmpty then some acc else if 10≤acc.length then none else (stage K e T f n s).bind fun r=>stages K e T f q (acc++[r.1]) r.2.1 r.2.2
def prog (K:List Nat) (e:Nat) (T:List Tk.Tok) (f:Nat):Option (List Sx.Tr):=(stage K e T f 0 Sx.s0).bind fun r=>stages K e T f 10 [r.1] r.2.1 r.2.2
end Bg
structure LG (c:Cx) (w w':World) (n:Nat) (s:Sx.St) (v:Value) (acc:List Sx.Tr) (cs:List Value) (k:Nat):Prop where
 rd:RD c w' n s
 kp:Kp [c.rb] w w'
 own:w'.ownsRow (w.heap.size+1) 53 4 v acc.length cs
 rw:Rw (RG w' (fun b=>w.heap.size+1≤b∧some b ≠ v.ownBlock) k) acc cs
 z:SB w' w.heap.size [.slice none 0 0]
theorem LG.go {c:Cx} {w w1 w2:World} {n n2:Nat} {s s2:Sx.St} {v:Value} {acc:List Sx.Tr} {cs:List Value} {k:Nat} (h:LG c w w1 n s v acc cs k) (hr:c.rb<w.heap.size) (hd:RD c w2 n2 s2) (hk:Kp [c.rb] w1 w2):LG c w w2 n2 s2 v acc cs k:=
 ⟨hd,h.kp.trans hk,own_keep h.own hk (by simp;omega),h.rw.mono (fun d cc hd=>hd.keep hk (by simp;omega)),h.z.keep hk (by simp;omega)⟩
theorem own_one (w:World) (B:Nat) (a b c d:Value) (t:TypeId) (hB:B≤w.heap.size):(w.alloc (.cells #[a,b,c,d] t)).ownsRow B t 4 (.slice (some ⟨w.heap.size,0,none⟩) 1 1) 1 [a,b,c,d]:=
 ⟨rfl,.inr ⟨w.heap.size,1,#[a,b,c,d],rfl,hB,heap_alloc_new w _,Nat.le_refl _,by decide,rfl,rfl⟩⟩
set_option maxRecDepth 100000 in
set_option maxHeartbeats 4000000 in
theorem program_ok (K:List Nat) (f:Nat) (hBl:BlC K f) {c:Cx} {w:World} {l:List Sx.Tr} (h:RD c w 0 Sx.s0) (hx:Bg.prog K c.e c.full f=some l):
  Calls Tryz.prog 37 #[.pointer (some ⟨c.rb,0,none⟩)] w fun e w'=> ∃ m a cap,e= .returned (.agg #[.slice a l.length cap])∧Sl (RG w' (fun b=>w.heap.size≤b) m) w' (fun b=>w.heap.size≤b) l (.slice a l.length cap)∧Kp [c.rb] w w':=by
 obtain ⟨i0,hi0,hz0,hz1,hz2⟩:=info_parts Tryz.infoStage
 obtain ⟨⟨d,n1,s1⟩,h1,hx⟩:=obind hx
 have H1:=hide h1
 have HX:=hide hx
 have HH:=hide h
 have HB:=hide h.lt
 have HBl:=hide hBl
 have hr:=h.rlt
 clear h h1 hx hBl
 go_enter Tryz.func37,Tryz.ntmps37
 go_wp2_with fail
 refine (stage_ok K f HBl.out (by exact HH.out.alloc _) H1.out).mono ?_
 rintro e w1 ⟨v1,⟨m1,nm1,at1,a1,x1,y1,a2,x2,y2,rfl,hRG⟩,rfl,hd1,hk1⟩
 have hz:=hk1.size
 simp at hz
 have HL0:Hid (LG c w (w1.alloc (.cells #[.string nm1,.int .i64 at1,.slice a1 x1 y1,.slice a2 x2 y2] 53)) n1 s1 (.slice (some ⟨w1.heap.size,0,none⟩) 1 1) [d] [.string nm1,.int .i64 at1,.slice a1 x1 y1,.slice a2 x2 y2] m1):=by
  refine hide ⟨hd1.alloc _,(((Kp.refl _ _).alloc _).trans hk1).alloc _,own_one _ _ _ _ _ _ _ (by omega),⟨_,[],(List.append_nil _).symm,?_,rfl⟩,((SB.new w _ rfl [.slice none 0 0] 24).keep hk1 (by simp;omega)).keep ((Kp.refl [] _).alloc _) (by simp)⟩
  refine (hRG.base (P':=fun b=>w.heap.size+1≤b∧some b ≠ some w1.heap.size) (fun b h1 h2=> ?_)).keep (S:=[]) ((Kp.refl _ _).alloc _) (by simp)
  simp at h2
  exact ⟨by omega,fun e=>by simp at e;omega⟩
 clear hRG hd1 hk1
 go_wp2
 go_loopw [3] (fun v wr=> ∃ (q n3 k:Nat) (acc:List Sx.Tr) (s3:Sx.St) (cs:List Value) (a:Option Addr) (cap:Nat),v= .slice a acc.length cap∧Hid (Bg.stages K c.e c.full f q acc n3 s3=some l)∧Hid (LG c w wr n3 s3 v acc cs k)) (fun v _=>10 - lenOf v)
 case atStart=>exact ⟨10,n1,m1,[d],s1,_,_,_,rfl,HX.out,HL0.out⟩
 case round=>
  obtain ⟨q,n3,k,acc,s3,cs,av,capv,rfl,HQ,HL⟩:=hrel
  have hsz:=HL.out.kp.size
  match q,HQ with
  |0,HQ=>cases HQ.out
  |q+1,HQ=>
  rcases oif HQ.out with ⟨hov,hp⟩|⟨hov,hp⟩
  ·cases hp
   have HOV:=hide hov
   have z0:=HL.out.z.cs 0 _ rfl
   have zf:=HL.out.z.fz
   clear hov
   go_wp2_with fail
   refine (over_no HOV.out HL.out.rd).mono ?_
   rintro e w4 ⟨rfl,k4,rfl⟩
   go_wp2
   have kz:Kp [w.heap.size] wr ((wr.drewN k4).setCell ⟨w.heap.size,0,none⟩ (.slice av l.length capv)):=Kp.rb ((Kp.refl _ _).drewN _) _ _
   refine bodyPost_ret (v:= .agg #[.slice av l.length capv]) (by simp [results,Tryz.results37,go_sem,z0]) rfl ⟨k,_,_,rfl,?_,Kp.new ((HL.out.kp.mono (by simp)).trans (kz.mono (S':=[w.heap.size,c.rb]) (by simp))) (Nat.le_refl _)⟩
   refine Sl.of_own (B:=w.heap.size+1) (own_keep HL.out.own kz (by simp)) rfl (fun b hb=>by omega) ?_
   exact HL.out.rw.mono (fun d cc hd=>(hd.keep kz (fun k hk hP=>by simp at hk;omega)).base (fun b _ hb=>by omega))
  ·rcases oif hp with ⟨_,hp⟩|⟨h10,hp⟩
   ·cases hp
   obtain ⟨⟨d5,n5,s5⟩,h5,hp⟩:=obind hp
   have HOV:Hid ((c.full.drop n3).isEmpty=false):=hide (by simpa using hov)
   have H5:=hide h5
   have HP5:=hide hp
   have d10:((acc.length:Int) == 10)=false:=by simp;omega
   clear hov h5 hp
   go_wp2_with fail
   refine (over_no HOV.out HL.out.rd).mono ?_
   rintro e w4 ⟨rfl,k4,rfl⟩
   go_wp2_with fail
   refine (stage_ok K f HBl.out (HL.out.rd.drewN _) H5.out).mono ?_
   rintro e w5 ⟨v5,⟨m5,nm5,at5,b1,x1,y1,b2,x2,y2,rfl,hRG⟩,rfl,hd5,hk5⟩
   have HL5:=hide (HL.out.go hr hd5 (((Kp.refl _ _).drewN _).trans hk5))
   have HRG:=hide hRG
   have HOL:=hide (own_lt HL.out.own)
   have hsz5:=hk5.size
   simp at hsz5
   have hl1:=HL.out.z.lt
   clear hd5 hk5 hRG
   go_wp2_with (at_builtin;refine wpList_append_lies _ rfl _ _ 22 rfl (w.heap.size+1) 53 i0 (.agg #[.string ⟨#[]⟩,.int .i64 0,.slice none 0 0,.slice none 0 0]) 4 72 Tryz.underlying22 hi0 hz0 hz1 hz2 rfl (by decide) _ _ _ rfl (by exact HL5.out.own.alloc _) ⟨w5.heap.size,0,none⟩ 1 1 [.string nm5,.int .i64 at5,.slice b1 x1 y1,.slice b2 x2 y2] rfl rfl ?c1 ?c2 ?c3 ?c4 ?c5 ?c6 _ rfl ?_)
   case c1=>exact cells_four_new _ _ rfl _ _ _ _ _
   case c2=>intro u hu;simp at hu;rcases hu with rfl|rfl|rfl|rfl<;> rfl
   case c3=>decide
   case c4=>unfold maxLen;omega
   case c5=>omega
   case c6=>simp;omega
   ·intro g cap w6 hown hgrow hat hlt
    have hblk:=own_blk HL5.out.own
    have hR:Rw (RG (w5.alloc (.cells #[.string nm5,.int .i64 at5,.slice b1 x1 y1,.slice b2 x2 y2] 53)) (fun b=>w.heap.size+1≤b∧some b ≠ Value.ownBlock (.slice av acc.length capv)) (k+m5)) (acc++[d5]) (cs++[.string nm5,.int .i64 at5,.slice b1 x1 y1,.slice b2 x2 y2]):=by
     refine Rw.snoc (HL5.out.rw.mono (fun d cc hd=>(hd.keep (S:=[]) ((Kp.refl _ _).alloc _) (by simp)).more m5)) ?_
     rw [Nat.add_comm k m5]
     refine ((HRG.out.base (P':=fun b=>w.heap.size+1≤b∧some b ≠ Value.ownBlock (.slice av acc.length capv)) (fun b _ hb=> ?_)).keep (S:=[]) ((Kp.refl _ _).alloc _) (by simp)).more k
     simp at hb
     exact ⟨by omega,fun e=>by have:=HOL.out b e;omega⟩
    have HL6:Hid (LG c w w6 n5 s5 (.slice (some ⟨g,0,none⟩) (acc.length+1) cap) (acc++[d5]) (cs++[.string nm5,.int .i64 at5,.slice b1 x1 y1,.slice b2 x2 y2]) (k+m5)):=
     hide ⟨(HL5.out.rd.alloc _).grown hgrow hblk ⟨by have:=HB.out.1;omega,fun hne=>by have:=HB.out.2 hne;omega⟩,(HL5.out.kp.alloc _).grown hgrow (fun k hk=> .inl (by have:=hblk k (by rw [hk];simp);omega)),by rw [List.length_append];exact hown,rows_grow (R:=fun w P d c=>RG w P (k+m5) d c) (fun w w' S P d c h hk hS=>h.keep hk hS) (fun w P P' d c h hP=>h.base hP) hR hgrow (by simpa using hat),(HL5.out.z.keep ((Kp.refl [] _).alloc _) (by simp)).keep (Kp.of_grown hgrow) (fun hm=>by have:=hblk _ hm;omega)⟩
    clear hR hown hgrow hat
    go_wp2
    refine ⟨⟨q,n5,k+m5,acc++[d5],s5,_,some ⟨g,0,none⟩,cap,by simp,HP5.out,HL6.out⟩,?_⟩
    show 10 - (acc.length+1)<10 - acc.length
    omega
end Go.Proofs.YtcdcoiobpbdmpaaGreatDoor
namespace Go.Proofs.YtcdcoiobpbdmpaaGreatDoor
open Go.RowKit
theorem assert_no (w:World):(Instr.typeAssert .nilIface 20 108 true).run Tryz.prog w= .ok (.tuple #[.agg #[.int .i64 0,.int .i64 0],.bool false]) w:=by kernel_rfl
set_option maxRecDepth 100000 in
set_option maxHeartbeats 1000000 in
theorem catch_idle (p q:Addr) (w:World):
  CallsD Tryz.prog 36 #[.pointer (some p),.pointer (some q)] .returning w fun e u' w'=>e= .returned (.tuple #[])∧u'= .returning∧Kp [] w w':=by
 refine callsD_of_wpS Tryz.func36 rfl fun c₀ cs hu=> ?_
 apply wpS_seq
 apply wpS_region
 have hta:=assert_no
 simp [wpOpsS,go_sem,recoverD,hu,Tryz.ntmps36,Exit.thenS,hta,Array.replicate]
 refine wpS_of_wp ?_
 clear hta
 go_wp2
 refine ⟨rfl,.returning,?_,.tuple #[],by simp [results,Tryz.results36,go_sem],rfl,rfl,(Kp.refl _ _).alloc _⟩
 cases c₀
 simp_all
structure RV (w:World) (ob:Nat) (u:Value):Prop where
 o:SB w ob [u]
 f:SB w (ob+1) [.int .i64 0,.int .i64 0]
theorem RV.keep {w w':World} {S:List Nat} {ob:Nat} {u:Value} (h:RV w ob u) (k:Kp S w w') (h1:ob ∉ S) (h2:ob+1 ∉ S):RV w' ob u:=⟨h.o.keep k h1,h.f.keep k h2⟩
theorem RV.new (w:World) (t t':TypeId):RV ((w.alloc (.cells #[.slice none 0 0] t)).alloc (.cells #[.int .i64 0,.int .i64 0] t')) w.heap.size (.slice none 0 0):=
 ⟨(SB.new w _ rfl [_] _).keep ((Kp.refl [] _).alloc _) (by simp),SB.new (w.alloc (.cells #[.slice none 0 0] t)) _ (by simp) [_,_] _⟩
theorem RV.put {w0 w:World} {ob:Nat} {u:Value} (h:RV w ob u) (v:Value) {P:Nat→Prop} {m:Nat} {l:List Sx.Tr} (hs:Sl (RG w P m) w P l v) (hP: ∀ b,P b→ob+1<b) {S:List Nat} (hk:Kp S w0 w) (hb:w0.heap.size≤ob):
  RV (((w.setCell ⟨ob,0,none⟩ v).setCell ⟨ob+1,0,none⟩ (.int .i64 0)).setCell ⟨ob+1,1,none⟩ (.int .i64 0)) ob v∧Sl (RG (((w.setCell ⟨ob,0,none⟩ v).setCell ⟨ob+1,0,none⟩ (.int .i64 0)).setCell ⟨ob+1,1,none⟩ (.int .i64 0)) P m) (((w.setCell ⟨ob,0,none⟩ v).setCell ⟨ob+1,0,none⟩ (.int .i64 0)).setCell ⟨ob+1,1,none⟩ (.int .i64 0)) P l v∧Kp S w0 (((w.setCell ⟨ob,0,none⟩ v).setCell ⟨ob+1,0,none⟩ (.int .i64 0)).setCell ⟨ob+1,1,none⟩ (.int .i64 0)):=by
 have k:Kp [ob+1,ob] w (((w.setCell ⟨ob,0,none⟩ v).setCell ⟨ob+1,0,none⟩ (.int .i64 0)).setCell ⟨ob+1,1,none⟩ (.int .i64 0)):=Kp.rb (Kp.rb ((Kp.refl _ _).setCell (p:=⟨ob,0,none⟩) (by simp) _) _ _) _ _
 have hS: ∀ j,j ∈ [ob+1,ob]→ ¬ P j:=fun j hj hp=>by have:=hP j hp;simp at hj;omega
 refine ⟨⟨(h.o.set (j:=0) rfl v).keep (Kp.rb (Kp.rb (Kp.refl [ob+1] _) 0 (.int .i64 0)) 1 (.int .i64 0)) (by simp),((h.f.keep (Kp.rb (Kp.refl [ob] w) 0 v) (by simp)).set (j:=0) rfl (.int .i64 0)).set (j:=1) rfl (.int .i64 0)⟩,hs.keep k hS (fun d c h=>h.keep k hS),Kp.nb (Kp.nb (Kp.nb hk hb _ _) (by omega) _ _) (by omega) _ _⟩
def TellP (w:World) (S:List Nat) (l:List Sx.Tr) (e:Ending) (w':World):Prop:= ∃ m a cap,e= .returned (.tuple #[.agg #[.slice a l.length cap],.agg #[.int .i64 0,.int .i64 0]])∧Sl (RG w' (fun b=>w.heap.size≤b) m) w' (fun b=>w.heap.size≤b) l (.slice a l.length cap)∧Kp S w w'
theorem Sl.less {w:World} {m B B':Nat} {l:List Sx.Tr} {v:Value} (h:Sl (RG w (fun b=>B'≤b) m) w (fun b=>B'≤b) l v) (hB:B≤B'):Sl (RG w (fun b=>B≤b) m) w (fun b=>B≤b) l v:=
 h.base (fun b _ hb=>Nat.le_trans hB hb) (fun d c h=>⟨h.base (fun b _ hb=>Nat.le_trans hB hb),by obtain ⟨_,_,_,_,_,_,_,rfl,_⟩:=h;simp⟩)
set_option maxRecDepth 100000 in
set_option maxHeartbeats 2000000 in
theorem read_ok (K:List Nat) (f:Nat) (hBl:BlC K f) {c:Cx} {w:World} {l:List Sx.Tr} (h:RD c w 0 Sx.s0) (hx:Bg.prog K c.e c.full f=some l):
  Calls Tryz.prog 20 #[.pointer (some ⟨c.rb,0,none⟩)] w (TellP w [c.rb] l):=by
 have hmf: ∀ (fn:Fn) (first cap:Array Value) (w:World),(Instr.makeFunc fn first cap).run Tryz.prog w= .ok (.func fn first cap) w:=fun _ _ _ _=>rfl
 have HP:=hide (program_ok K f hBl ((h.alloc (.cells #[.slice none 0 0] 24)).alloc (.cells #[.int .i64 0,.int .i64 0] 31)) hx)
 have hr:=h.rlt
 have HR:=hide (RV.new w 24 31)
 clear h hx hBl
 go_enter_defers Tryz.func20,Tryz.ntmps20
 go_wp2_with fail
 refine HP.out.mono ?_
 rintro e w1 ⟨m,a,cap,rfl,hSl,hk1⟩
 have hz:=hk1.size
 simp at hz
 have hR:=HR.out.keep hk1 (by simp;omega) (by simp;omega)
 have HZ:=hide (hR.put (.slice a l.length cap) hSl (fun b hb=>by simp at hb;omega) ((((Kp.refl [c.rb] w).alloc _).alloc _).trans hk1) (Nat.le_refl _))
 have o0:=hR.o.cs 0 _ rfl
 have oz:=hR.o.fz
 have f0:=hR.f.cs 0 _ rfl
 have f1:=hR.f.cs 1 _ rfl
 have fz:=hR.f.fz
 clear hR hk1 hSl HP HR
 go_wp2
 refine leaves_cons (f:=36) (args:= #[.pointer (some ⟨w.heap.size,0,none⟩),.pointer (some ⟨w.heap.size+1,0,none⟩)]) (by simp) (by simp [go_sem]) ?_
 refine (catch_idle ⟨w.heap.size,0,none⟩ ⟨w.heap.size+1,0,none⟩ _).mono ?_
 rintro e u' w'' ⟨rfl,rfl,hk⟩
 obtain ⟨z1,z2,z3⟩:=HZ.out
 have z4:=z1.keep hk (by simp) (by simp)
 have p0:=z4.o.cs 0 _ rfl
 have g0:=z4.f.cs 0 _ rfl
 have g1:=z4.f.cs 1 _ rfl
 refine ⟨.tuple #[.agg #[.slice a l.length cap],.agg #[.int .i64 0,.int .i64 0]],by simp [results,Tryz.results20,go_sem,p0,g0,g1],m,a,cap,rfl,?_,z3.trans (hk.mono (by simp))⟩
 exact (z2.keep hk (by simp) (fun d c h=>h.keep hk (by simp))).less (by simp;omega)
theorem rd_start {w:World} {B:Nat} {v:Value} {ts:List Tk.Tok} {e:Nat} (h:w.ownsRow B 103 4 v ts.length (tcells ts)) (hl:ts.length≤12000) (he:e≤12000) (hat: ∀ (i:Nat) t,ts[i]? =some t→t.at'≤12000) (hv: ∃ a n cap,v= .slice a n cap):
  ∃ c:Cx,c.rb=w.heap.size∧c.full=ts∧c.e=e∧v= .slice c.a c.full.length c.cap∧RD c (w.alloc (.cells #[v,.int .i64 0,.int .i64 e,.int .i64 0,.int .i64 0,.int .i64 0,.int .i64 0] 71)) 0 Sx.s0:=by
 have hex: ∃ a cap tb,v= .slice a ts.length cap∧(ts ≠ []→a=some ⟨tb,0,none⟩∧tb<w.heap.size)∧ ∀ (i:Nat) t,ts[i]? =some t→w.cell? ⟨tb,i * 4,none⟩=some (.int .i64 t.kind)∧w.cell? ⟨tb,i * 4+1,none⟩=some (.int .i64 (t.at':Int))∧
  w.cell? ⟨tb,i * 4+2,none⟩=some (.string (bs t.text))∧w.cell? ⟨tb,i * 4+3,none⟩=some (.int .i64 t.n):=by
  rcases h.2 with ⟨hv,hn⟩|⟨g,cap,cur,hv,hB,hg,_⟩
  ·have hts:ts=[]:=by cases ts with
    |nil=>rfl
    |cons a r=>simp at hn
   subst hts
   exact ⟨none,0,0,hv,fun h=>absurd rfl h,fun i t hi=>by simp at hi⟩
  ·refine ⟨_,cap,g,hv,fun _=>⟨rfl,?_⟩,fun i t hi=> ?_⟩
   ·rcases Nat.lt_or_ge g w.heap.size with h'|h'
    ·exact h'
    ·rw [Array.getElem?_eq_none h'] at hg;cases hg
   ·obtain ⟨t0,t1,t2,t3⟩:=tcells_at ts i t hi
    have hc:=h.cells (g:=g) (by rw [hv];rfl)
    have c0:=hc _ _ t0
    have c1:=hc _ _ t1
    have c2:=hc _ _ t2
    have c3:=hc _ _ t3
    rw [Addr.add_mid,Nat.zero_add] at c0 c1 c2 c3
    exact ⟨c0,c1,c2,c3⟩
 obtain ⟨a,cap,tb,rfl,hne,htk⟩:=hex
 refine ⟨⟨w.heap.size,tb,cap,a,ts,e⟩,rfl,rfl,rfl,rfl,?_⟩
 have k:Kp [] w (w.alloc (.cells #[.slice a ts.length cap,.int .i64 0,.int .i64 e,.int .i64 0,.int .i64 0,.int .i64 0,.int .i64 0] 71)):=(Kp.refl _ _).alloc _
 exact { hn:=Nat.zero_le _,hm:=hl,he:=he,rlt:=by simp,c0:=by simp [go_sem],c1:=by simp [go_sem],c2:=by simp [go_sem],c3:=by simp [go_sem,Sx.s0],c4:=by simp [go_sem,Sx.s0],c5:=by simp [go_sem,Sx.s0],c6:=by simp [go_sem,Sx.s0],b3:=by simp [Sx.s0],b4:=by simp [Sx.s0],b5:=by simp [Sx.s0],b6:=by simp only [Sx.s0];omega,fz:=fun o=>by simp [go_sem],ne:=fun h=>⟨(hne h).1,by have:=(hne h).2;simp only;omega⟩,tk:=fun i t hi=>match htk i t hi with|⟨c0,c1,c2,c3⟩=>⟨k.some c0 (by simp),k.some c1 (by simp),k.some c2 (by simp),k.some c3 (by simp),hat i t hi⟩ }
set_option maxRecDepth 100000 in
set_option maxHeartbeats 2000000 in
theorem parse_ok (K:List Nat) (f:Nat) (hBl:BlC K f) {s:ByteArray} {w:World} {T:List Tk.Tok} {pp:Int} {l:List Sx.Tr} (hw:WTab w) (hs:s.size≤12000) (hT:Tk.scan s.data.toList=(T,0,pp)) (hl:T.length≤12000) (hat: ∀ (i:Nat) t,T[i]? =some t→t.at'≤12000) (hx:Bg.prog K s.size T f=some l):
  Calls Tryz.prog 11 #[.string s] w (TellP w [] l):=by
 have HSC:=hide (scan_in s ((w.alloc (.cells #[.slice none 0 0] 24)).alloc (.cells #[.int .i64 0,.int .i64 0] 31)) (hw.below (((Below.refl _ _).alloc (Nat.le_refl _) _).alloc (by simp) _)) hs)
 rw [hT] at HSC
 unfold scanV at HSC
 have HR:=hide (RV.new w 24 31)
 have HB:=hide hBl
 have HX:=hide hx
 have HA:=hide hat
 clear hx hat hBl hT hw
 go_enter Tryz.func11,Tryz.ntmps11
 go_wp2_with fail
 refine HSC.out.mono ?_
 rintro e w1 ⟨v,rfl,hown,hb1⟩
 have hvs: ∃ a n cap,v= .slice a n cap:=by
  rcases hown.2 with ⟨hv,_⟩|⟨g,cap,cur,hv,_⟩
  ·exact ⟨_,_,_,hv⟩
  ·exact ⟨_,_,_,hv⟩
 obtain ⟨c,hrb,hfu,he,hv,hrd⟩:=rd_start (e:=s.size) (hown.alloc (.cells #[.int .i64 0,.int .i64 pp] 31)) hl hs HA.out hvs
 have hrb':c.rb=w1.heap.size+1:=by rw [hrb];simp
 have HRD:=hide (read_ok K f HB.out (l:=l) hrd (by rw [hfu,he];exact HX.out))
 have hz1:=hb1.size
 simp at hz1
 have HR1:=hide (HR.out.keep (Kp.of_below (S:=[]) hb1) (by simp) (by simp))
 have K1:Hid (Kp [] w w1):=(((Kp.refl _ _).alloc _).alloc _).trans (Kp.of_below hb1)
 obtain ⟨av,nv,cv,rfl⟩:=hvs
 rw [hrb'] at HRD
 clear hown hb1 hrb hrd hv
 have hq1:w.heap.size<w1.heap.size:=by omega
 have hq2:w.heap.size+1<w1.heap.size:=by omega
 go_wp2_with fail
 refine HRD.out.mono ?_
 rintro e w2 ⟨m,a,cap,rfl,hSl,hk⟩
 have k2:Kp [w1.heap.size+1] w1 w2:=(((Kp.refl _ _).alloc _).alloc _).trans hk
 have hR:=HR1.out.keep k2 (by simp;omega) (by simp;omega)
 have HZ:=hide (hR.put (.slice a l.length cap) hSl (fun b hb=>by simp at hb;omega) (Kp.new (b:=w1.heap.size+1) ((K1.out.mono (by simp)).trans k2) (by omega)) (Nat.le_refl _))
 have o0:=hR.o.cs 0 _ rfl
 have oz:=hR.o.fz
 have f0:=hR.f.cs 0 _ rfl
 have f1:=hR.f.cs 1 _ rfl
 have fz:=hR.f.fz
 clear hR hk k2 hSl
 go_wp2
 obtain ⟨z1,z2,z3⟩:=HZ.out
 have p0:=z1.o.cs 0 _ rfl
 have g0:=z1.f.cs 0 _ rfl
 have g1:=z1.f.cs 1 _ rfl
 exact bodyPost_ret (v:= .tuple #[.agg #[.slice a l.length cap],.agg #[.int .i64 0,.int .i64 0]]) (by simp [results,Tryz.results11,go_sem,p0,g0,g1]) rfl ⟨m,a,cap,rfl,z2.less (by simp;omega),z3⟩
end Go.Proofs.YtcdcoiobpbdmpaaGreatDoor
