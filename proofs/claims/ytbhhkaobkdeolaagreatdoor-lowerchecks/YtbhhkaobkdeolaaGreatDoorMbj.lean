import Derived.Test.YtbhhkaobkdeolaaGreatDoorMbi
namespace Go.Proofs.YtbhhkaobkdeolaaGreatDoor
open Go.RowKit Go.Maps Go.ChangeMaps
set_option maxRecDepth 100000 in
set_option maxHeartbeats 1000000 in
theorem isMain_any (w:World) (P:Nat→Prop) (nm:List UInt8) (at':Int) (ps body:List Sx.Tr) (aP:Option Addr) (cP:Nat) (uB:Value) (hS:Sl RP w P ps (.slice aP ps.length cP)) (hl:ps.length≤6):
  Calls Tryz.prog 34 #[.agg #[.string (bs nm),.int .i64 at',.slice aP ps.length cP,uB]] w fun e w'=>e= .returned (.bool (Kn.isMain (Sx.tG nm at' ps body)))∧Kp [] w w':=by
 have em:((bs nm).toList == [109,97,105,110])=(nm == [109,97,105,110]):=by rw [bsl]
 by_cases h1:nm=[109,97,105,110]
 ·have q1:(nm == [109,97,105,110])=true:=by simpa using h1
  rw [q1] at em
  match ps,hS,hl with
  |[],_,_=>
   have e1:Kn.isMain (Sx.tG nm at' [] body)=false:=by
    show (nm == [109,97,105,110] && false)=false
    simp
   rw [e1]
   clear h1 q1 e1
   go_enter Tryz.func34,Tryz.ntmps34
   go_wp2
   go_ret
   exact ⟨rfl,(Kp.refl _ _).alloc _⟩
  |[p],hS,_=>
   obtain ⟨b,off,nm1,T1,rfl,hd,m0,m1⟩:=hS.nth' 0 (by simp)
   have hp:p=Sx.tP nm1 T1:=by simpa using hd
   have e1:Kn.isMain (Sx.tG nm at' [p] body)=(T1 == [114,105]):=by
    show (nm == [109,97,105,110] && ((Sx.pH p).2 == [114,105]))=_
    rw [q1,hp]
    rfl
   have e2:((bs T1).toList == [114,105])=(T1 == [114,105]):=by rw [bsl]
   rw [e1]
   have m1':w.cell? ⟨b,off+1,none⟩=some (.string (bs T1)):=by simpa using m1
   have hb:=World.block_lt_of_cell? _ _ m1'
   clear h1 q1 e1 hd hp m0 m1 hS
   generalize (T1 == [114,105])=X at *
   go_enter Tryz.func34,Tryz.ntmps34
   go_wp2
   go_ret
   exact ⟨rfl,(Kp.refl _ _).alloc _⟩
  |p::q::r,_,hl=>
   have e1:Kn.isMain (Sx.tG nm at' (p::q::r) body)=false:=by
    show (nm == [109,97,105,110] && false)=false
    simp
   rw [e1]
   have e2:(((p::q::r).length:Int) == 1)=false:=by simp;omega
   clear h1 q1 e1
   generalize (p::q::r).length=L at *
   go_enter Tryz.func34,Tryz.ntmps34
   go_wp2
   go_ret
   exact ⟨rfl,(Kp.refl _ _).alloc _⟩
 ·have q1:(nm == [109,97,105,110])=false:=by simpa using h1
  rw [q1] at em
  have e1:Kn.isMain (Sx.tG nm at' ps body)=false:=by
   show (nm == [109,97,105,110] && _)=false
   rw [q1]
   rfl
  rw [e1]
  clear h1 q1 e1
  go_enter Tryz.func34,Tryz.ntmps34
  go_wp2
  go_ret
  exact ⟨rfl,(Kp.refl _ _).alloc _⟩
set_option maxRecDepth 100000 in
set_option maxHeartbeats 1000000 in
theorem kIndex_any (n:Nat) (w:World) (P:Nat→Prop) (l:List Sx.Tr) (a:Option Addr) (cap:Nat) (h:Sl (RG w P n) w P l (.slice a l.length cap)) (hl:l.length≤10) (hp: ∀ g ∈ l,(Sx.gP g).length≤6):
  Calls Tryz.prog 67 #[.slice a l.length cap,.func (.func 34) #[] #[]] w fun e w'=> ∃ z:Int,e= .returned (.int .i64 z)∧decide (0≤z)=l.any Kn.isMain∧Kp [] w w':=by
 have HS:=hide h
 have HP:=hide hp
 clear h hp
 go_enter Tryz.func67,Tryz.ntmps67
 go_wp2
 go_loopw [8] (fun iv wr=> ∃ i:Nat,i≤l.length∧iv= .int .i64 i∧Hid (Kp [] w wr)∧Hid (l.any Kn.isMain=(l.drop i).any Kn.isMain)) (fun iv _=>l.length - (intOf iv).toNat)
 case atStart=>exact ⟨0,Nat.zero_le _,rfl,hide (Kp.refl _ _),rfl⟩
 case round=>
  obtain ⟨i,hil,rfl,HK,HA⟩:=hrel
  by_cases hlt:i<l.length
  ·have d1:decide ((i:Int)<(l.length:Int))=true:=by simp;omega
   obtain ⟨b,off,nm,at',ps,body,uP,uB,rfl,-,hd,m0,m1,m2,m3,hP,hB⟩:=GL.nth (HS.out.keep HK.out (by simp) (fun d c h=>h.keep HK.out (by simp))) i hlt
   obtain ⟨aP,cP,rfl,-⟩:=id hP
   obtain ⟨aB,cB,rfl⟩:=hB.slice
   have hp6:ps.length≤6:=HP.out _ (List.mem_of_getElem? hd)
   have CM:=hide (isMain_any wr P nm at' ps body aP cP (.slice aB body.length cB) hP hp6)
   have HA2:Hid (l.any Kn.isMain=(Kn.isMain (Sx.tG nm at' ps body) || (l.drop (i+1)).any Kn.isMain)):=hide (by rw [HA.out,drop_nth hd];rfl)
   have hk0:(0:Int)≤(i:Int):=by omega
   have hk1:(i:Int)<(l.length:Int):=by omega
   generalize Kn.isMain (Sx.tG nm at' ps body)=M at *
   clear hP hB hd
   cases M with
   |true=>
    have HT:Hid (l.any Kn.isMain=true):=hide (by rw [HA2.out];rfl)
    clear HA HA2
    go_wp2_with fail
    refine CM.out.mono ?_
    rintro e w1 ⟨rfl,k1⟩
    have K1:=hide (HK.out.trans k1)
    clear k1
    go_wp2
    go_ret
    exact ⟨i,rfl,by rw [HT.out];simp,K1.out⟩
   |false=>
    have HT:Hid (l.any Kn.isMain=(l.drop (i+1)).any Kn.isMain):=hide (by rw [HA2.out];rfl)
    clear HA HA2
    go_wp2_with fail
    refine CM.out.mono ?_
    rintro e w1 ⟨rfl,k1⟩
    have K1:=hide (HK.out.trans k1)
    clear k1
    go_wp2
    go_roundw
    case rel=>exact ⟨i+1,by omega,by go_num,K1,HT⟩
    case measure=>simp [intOf];omega
  ·obtain rfl:i=l.length:=by omega
   have d1:decide ((l.length:Int)<(l.length:Int))=false:=by simp
   go_wp2
   go_ret
   refine ⟨-1,rfl,?_,HK.out⟩
   rw [HA.out,List.drop_length]
   rfl
set_option maxRecDepth 100000 in
set_option maxHeartbeats 1000000 in
theorem kContains_any (n:Nat) (w:World) (P:Nat→Prop) (l:List Sx.Tr) (a:Option Addr) (cap:Nat) (h:Sl (RG w P n) w P l (.slice a l.length cap)) (hl:l.length≤10) (hp: ∀ g ∈ l,(Sx.gP g).length≤6):
  Calls Tryz.prog 33 #[.slice a l.length cap,.func (.func 34) #[] #[]] w fun e w'=>e= .returned (.bool (l.any Kn.isMain))∧Kp [] w w':=by
 have CI:=hide (kIndex_any n w P l a cap h hl hp)
 generalize l.any Kn.isMain=M at *
 go_enter Tryz.func33,Tryz.ntmps33
 go_wp2_with fail
 refine CI.out.mono ?_
 rintro e w1 ⟨z,rfl,hz,k1⟩
 have K1:=hide k1
 clear k1
 go_wp2
 go_ret
 exact ⟨by first|rfl|(rw [←hz];rfl)|(rw [hz]),K1.out⟩
theorem Kn.abv_snoc (ab:List Sx.Tr) (g:Sx.Tr) (x:List UInt8):Kn.abv (ab++[g]) x=match Kn.abv ab x with
  |some y=>some y
  |none=>if Sx.gN g=x then some g else none:=by
 induction ab with
 |nil=>rfl
 |cons y r ih=>
  show (if Sx.gN y=x then some y else Kn.abv (r++[g]) x)=_
  by_cases h:Sx.gN y=x
  ·rw [if_pos h]
   show _=match (if Sx.gN y=x then some y else Kn.abv r x) with
    |some y=>some y
    |none=>if Sx.gN g=x then some g else none
   rw [if_pos h]
  ·rw [if_neg h,ih]
   show _=match (if Sx.gN y=x then some y else Kn.abv r x) with
    |some y=>some y
    |none=>if Sx.gN g=x then some g else none
   rw [if_neg h]
theorem ABv.snoc {g ma na:Nat} {fa:List UInt8→Option Value} {w:World} {P:Nat→Prop} {ab:List Sx.Tr} {nm:List UInt8} {at':Int} {ps body:List Sx.Tr} {aP aB:Option Addr} {cP cB m:Nat} (h:ABv ⟨g,0,0,ma,na,fa⟩ w P ab) (hn:Kn.abv ab nm=none) (hS:Sl RP w P ps (.slice aP ps.length cP)):
  ABv ⟨g,0,0,ma,m,upd fa nm (.agg #[.string (bs nm),.int .i64 at',.slice aP ps.length cP,.slice aB body.length cB])⟩ w P (ab++[Sx.tG nm at' ps body]):=by
 refine ⟨fun x hx=> ?_,fun x y hx=> ?_⟩
 ·rw [Kn.abv_snoc] at hx
  cases hh:Kn.abv ab x with
  |some y=>rw [hh] at hx;cases hx
  |none=>
   rw [hh] at hx
   dsimp only at hx
   split at hx
   ·cases hx
   ·rename_i hne
    show upd fa nm _ x=none
    unfold upd
    rw [if_neg (fun e=>hne e.symm)]
    exact h.no x hh
 ·rw [Kn.abv_snoc] at hx
  show ∃ nm' at2 uP aB2 nB2 cB2,upd fa nm _ x=some (.agg #[.string (bs nm'),.int .i64 at2,uP,.slice aB2 nB2 cB2])∧Sl RP w P (Sx.gP y) uP
  cases hh:Kn.abv ab x with
  |some y'=>
   rw [hh] at hx
   dsimp only at hx
   obtain rfl:=Option.some.inj hx
   have hne:x ≠ nm:=fun e=>by rw [e,hn] at hh;cases hh
   unfold upd
   rw [if_neg hne]
   exact h.yes x y' hh
  |none=>
   rw [hh] at hx
   dsimp only at hx
   split at hx
   ·rename_i he
    obtain rfl:=Option.some.inj hx
    have he':x=nm:=he.symm
    unfold upd
    rw [if_pos he']
    exact ⟨nm,at',_,_,_,_,rfl,hS⟩
   ·cases hx
theorem Tryz.infoVars:(Tryz.prog.info? 39).map (fun i=>(i.zero,i.size,i.bytes))=some (some (.slice none 0 0),1,24):=by kernel_rfl
theorem CK.keepS {g ma na:Nat} {fa:List UInt8→Option Value} {w w':World} {t:Nat} {S:List Nat} (h:CK g ma na fa w t) (k:Kp S w w') (hg:g ∉ S) (hm:ma ∉ S):CK g ma na fa w' t:=by
 obtain ⟨a,n,c,h0⟩:=h.c0
 obtain ⟨m1,h1⟩:=h.c1
 obtain ⟨m2,h2⟩:=h.c2
 exact ⟨Nat.lt_of_lt_of_le h.lt k.size,⟨a,n,c,k.some h0 hg⟩,⟨m1,k.some h1 hg⟩,⟨m2,k.some h2 hg⟩,k.some h.c3 hg,k.some h.c4 hg,fun j=>(k.frozen (p:=⟨g,j,none⟩) h.lt hg).trans (h.fz j),h.mv.of_block (k.block _ h.mv.lt hm),h.lat⟩
theorem Kn.abv_mem {ab:List Sx.Tr} {x:List UInt8} {y:Sx.Tr} (h:Kn.abv ab x=some y):y ∈ ab:=by
 induction ab with
 |nil=>cases h
 |cons g r ih=>
  have h':(if Sx.gN g=x then some g else Kn.abv r x)=some y:=h
  split at h'
  ·obtain rfl:=Option.some.inj h';exact List.mem_cons_self
  ·exact List.mem_cons_of_mem _ (ih h')
def Kc.stg (n:Nat):Nat→List Sx.Tr→List (List Kn.Nv)→List Sx.Tr→Option (List (List Kn.Nv))
 |_,_,out,[]=>some out
 |t,ab,out,g::r=>(Kc.sg n ab (Kn.pv (Sx.gP g)) (Sx.gN g) (Sx.gB g) t).bind fun s=>Kc.stg n s.at' (ab++[g]) (out++[s.bd]) r
def Kc.vars (n:Nat) (l:List Sx.Tr):Option (List (List Kn.Nv)):=if l.length≤10∧(∀ g,g ∈ l→(Sx.gP g).length≤6)∧l.any Kn.isMain=true then Kc.stg n 0 [] [] l else none
def Kc.us (AV:List (Option Addr × Nat)) (out:List (List Kn.Nv)):List Value:=(AV.zip out).map fun p=> .slice p.1.1 p.2.length p.1.2
structure RO (B g ma:Nat) (w:World) (av:Value) (out:List (List Kn.Nv)) (AV:List (Option Addr × Nat)):Prop where
 ln:AV.length=out.length
 at': ∀ (k:Nat) x a,out[k]? =some x→AV[k]? =some a→w.ownsRow (g+1) 57 2 (.slice a.1 x.length a.2) x.length (vcells x)∧ ∀ j,(Value.slice a.1 x.length a.2).ownBlock=some j→B≤j∧j ≠ ma∧av.ownBlock ≠ some j
 ap: ∀ (k k2:Nat) x x2 a a2,k ≠ k2→out[k]? =some x→out[k2]? =some x2→AV[k]? =some a→AV[k2]? =some a2→ ∀ j,(Value.slice a.1 x.length a.2).ownBlock=some j→(Value.slice a2.1 x2.length a2.2).ownBlock ≠ some j
theorem RO.keep {B g ma:Nat} {w w':World} {av av':Value} {out:List (List Kn.Nv)} {AV:List (Option Addr × Nat)} {S:List Nat} (h:RO B g ma w av out AV) (hk:Kp S w w') (hS: ∀ b,b ∈ S→b≤g∨b=ma∨b<B∨av.ownBlock=some b) (hv: ∀ b,av'.ownBlock=some b→av.ownBlock=some b∨w.heap.size≤b):RO B g ma w' av' out AV:=
 ⟨h.ln,fun k x a hx ha=>by
  obtain ⟨h1,h2⟩:=h.at' k x a hx ha
  refine ⟨own_keepv h1 (fun j hj=>hk.block j (h1.lt j hj).2 (fun hm=> ?_)),fun j hj=>⟨(h2 j hj).1,(h2 j hj).2.1,fun e=> ?_⟩⟩
  ·have:=(h1.lt j hj).1
   obtain ⟨q1,q2,q3⟩:=h2 j hj
   rcases hS j hm with e|e|e|e
   ·omega
   ·exact q2 e
   ·omega
   ·exact q3 e
  ·rcases hv j e with e|e
   ·exact (h2 j hj).2.2 e
   ·have:=(h1.lt j hj).2;omega,h.ap⟩
theorem RO.snoc {B g ma:Nat} {w:World} {av:Value} {out:List (List Kn.Nv)} {AV:List (Option Addr × Nat)} {x:List Kn.Nv} {a:Option Addr} {c W:Nat} (h:RO B g ma w av out AV) (ho:w.ownsRow (g+1) 57 2 (.slice a x.length c) x.length (vcells x)) (hb: ∀ j,(Value.slice a x.length c).ownBlock=some j→B≤j∧j ≠ ma∧av.ownBlock ≠ some j∧W≤j)
  (hW: ∀ (k:Nat) y q,out[k]? =some y→AV[k]? =some q→ ∀ j,(Value.slice q.1 y.length q.2).ownBlock=some j→j<W):RO B g ma w av (out++[x]) (AV++[(a,c)]):=by
 have hln:=h.ln
 have key: ∀ (k:Nat) y q,(out++[x])[k]? =some y→(AV++[(a,c)])[k]? =some q→(out[k]? =some y∧AV[k]? =some q)∨(k=out.length∧y=x∧q=(a,c)):=fun k y q h1 h2=>by
  rcases Nat.lt_trichotomy k out.length with hk|hk|hk
  ·rw [List.getElem?_append_left hk] at h1
   rw [List.getElem?_append_left (by omega)] at h2
   exact .inl ⟨h1,h2⟩
  ·subst hk
   rw [List.getElem?_append_right (Nat.le_refl _),Nat.sub_self] at h1
   rw [←hln,List.getElem?_append_right (Nat.le_refl _),Nat.sub_self] at h2
   cases h1
   cases h2
   exact .inr ⟨rfl,rfl,rfl⟩
  ·rw [List.getElem?_eq_none (by simp;omega)] at h1
   cases h1
 refine ⟨by simp [hln],fun k y q h1 h2=> ?_,fun k k2 y y2 q q2 hne h1 h2 h3 h4 j hj hj2=> ?_⟩
 ·rcases key k y q h1 h2 with ⟨e1,e2⟩|⟨-,rfl,rfl⟩
  ·exact h.at' k y q e1 e2
  ·exact ⟨ho,fun j hj=>⟨(hb j hj).1,(hb j hj).2.1,(hb j hj).2.2.1⟩⟩
 ·rcases key k y q h1 h3 with ⟨e1,e2⟩|⟨e0,rfl,rfl⟩
  ·rcases key k2 y2 q2 h2 h4 with ⟨e3,e4⟩|⟨-,rfl,rfl⟩
   ·exact h.ap k k2 y y2 q q2 hne e1 e3 e2 e4 j hj hj2
   ·have:=hW k y q e1 e2 j hj
    have:=(hb j hj2).2.2.2
    omega
  ·rcases key k2 y2 q2 h2 h4 with ⟨e3,e4⟩|⟨e5,-,-⟩
   ·have:=hW k2 y2 q2 e3 e4 j hj2
    have:=(hb j hj).2.2.2
    omega
   ·omega
theorem Kc.us_snoc (AV:List (Option Addr × Nat)) (out:List (List Kn.Nv)) (h:AV.length=out.length) (a:Option Addr) (c:Nat) (x:List Kn.Nv):Kc.us (AV++[(a,c)]) (out++[x])=Kc.us AV out++[.slice a x.length c]:=by
 unfold Kc.us
 rw [List.zip_append h]
 simp
structure VI (B g ma:Nat) (WA:World) (P:Nat→Prop) (n:Nat) (l:List Sx.Tr) (R:List (List Kn.Nv)) (i t:Nat) (fa:List UInt8→Option Value) (av:Value) (out:List (List Kn.Nv)) (AV:List (Option Addr × Nat)) (wr:World):Prop where
 ck:CK g ma i fa wr t
 ab:ABv ⟨g,0,0,ma,i,fa⟩ wr P (l.take i)
 ow:wr.ownsRow (g+1) 39 1 av i (Kc.us AV out)
 rr:RO B g ma wr av out AV
 lo:out.length=i
 kp:Kp [] WA wr
 eq:Kc.stg n t (l.take i) out (l.drop i)=some R
set_option maxRecDepth 100000 in
set_option maxHeartbeats 4000000 in
theorem kVars_ok (n:Nat) (w:World) (P:Nat→Prop) (l:List Sx.Tr) (a:Option Addr) (cap:Nat) (h:Sl (RG w P n) w P l (.slice a l.length cap)) (hPw: ∀ b,P b→b<w.heap.size) (R:List (List Kn.Nv)) (hx:Kc.vars n l=some R)
  (hC: ∀ w1,Kp [] w w1→Calls Tryz.prog 31 #[.agg #[.slice a l.length cap]] w1 fun e w2=>e= .returned (.agg #[.int .i64 0,.int .i64 0])∧Kp [] w1 w2):
  Calls Tryz.prog 19 #[.agg #[.slice a l.length cap]] w fun e w'=> ∃ av cv AV g ma,e= .returned (.tuple #[.slice av R.length cv,.agg #[.int .i64 0,.int .i64 0]])∧w'.ownsRow (g+1) 39 1 (.slice av R.length cv) R.length (Kc.us AV R)∧RO w.heap.size g ma w' (.slice av R.length cv) R AV∧w.heap.size≤g∧Kp [] w w':=by
 rcases oif hx with ⟨⟨hl10,hp6,hmain⟩,hx⟩|⟨_,hx⟩
 rotate_left
 ·cases hx
 have HS:=hide h
 have hmm:= @run_makeMap Tryz.prog
 have KA:Hid (Kp [] w ((w.alloc (.cells #[.slice a l.length cap] 34)).alloc (.cells #[.int .i64 0,.int .i64 0] 28))):=hide (((Kp.refl _ _).alloc _).alloc _)
 have CC:=hide (hC _ KA.out)
 have HX:=hide hx
 have HCN:=hide (fun w' (hk:Kp [] w w')=>kContains_any n w' P l a cap (h.keep hk (by simp) (fun d c h=>h.keep hk (by simp))) hl10 hp6)
 rw [hmain] at HCN
 have HP6:=hide hp6
 obtain ⟨i0,hi0,hz0,hz1,hz2⟩:=info_parts Tryz.infoVars
 clear h hC hx hmain hp6
 go_enter Tryz.func19,Tryz.ntmps19
 go_wp2_with fail
 refine CC.out.mono ?_
 rintro e w2 ⟨rfl,k2⟩
 have KB:Hid (Kp [] ((w.alloc (.cells #[.slice a l.length cap] 34)).alloc (.cells #[.int .i64 0,.int .i64 0] 28)) (((w2.alloc (.cells #[.int .i64 0,.int .i64 0] 28)).alloc (.map #[] 0)).alloc (.cells #[.slice none 0 0,.map none,.map none,.map (some (w2.heap.size+1)),.int .i64 0] 95))):=hide (((k2.alloc _).alloc _).alloc _)
 have p4:(((w2.alloc (.cells #[.int .i64 0,.int .i64 0] 28)).alloc (.map #[] 0)).alloc (.cells #[.slice none 0 0,.map none,.map none,.map (some (w2.heap.size+1)),.int .i64 0] 95)).cell? ⟨w.heap.size,0,none⟩=some (.slice a l.length cap):=KB.out.some (by simp [go_sem]) (by simp)
 have hl2:w.heap.size+2≤w2.heap.size:=by have:=k2.size;simp at this;omega
 have V0:Hid (VI w.heap.size (w2.heap.size+1+1) (w2.heap.size+1) ((w.alloc (.cells #[.slice a l.length cap] 34)).alloc (.cells #[.int .i64 0,.int .i64 0] 28)) P n l R 0 0 (fun _=>none) (.slice none 0 0) [] [] (((w2.alloc (.cells #[.int .i64 0,.int .i64 0] 28)).alloc (.map #[] 0)).alloc (.cells #[.slice none 0 0,.map none,.map none,.map (some (w2.heap.size+1)),.int .i64 0] 95))):=hide (by
  have hm:=MV.made (w2.alloc (.cells #[.int .i64 0,.int .i64 0] 28))
  rw [show (w2.alloc (.cells #[.int .i64 0,.int .i64 0] 28)).heap.size=w2.heap.size+1 from by simp] at hm
  exact ⟨⟨by simp,⟨none,0,0,by simp [go_sem]⟩,⟨none,by simp [go_sem]⟩,⟨none,by simp [go_sem]⟩,by simp [go_sem],by simp [go_sem],fun j=>by simp [go_sem],hm.of_block (Below.heap_alloc _ _ _ (by simp)),by decide⟩,⟨fun _ _=>rfl,fun x y hx=>by rw [List.take_zero] at hx;cases hx⟩,⟨rfl,.inl ⟨rfl,rfl⟩⟩,⟨rfl,fun k x a hx=>(by cases hx),fun k k2 x x2 a a2 _ hx=>(by cases hx)⟩,rfl,KB.out,by rw [List.take_zero];exact HX.out⟩)
 clear k2
 generalize hWA:((w.alloc (.cells #[.slice a l.length cap] 34)).alloc (.cells #[.int .i64 0,.int .i64 0] 28))=WA at *
 have HA0:Hid (WA.cell? ⟨w.heap.size,0,none⟩=some (.slice a l.length cap)∧WA.cell? ⟨w.heap.size+1,0,none⟩=some (.int .i64 0)∧WA.cell? ⟨w.heap.size+1,1,none⟩=some (.int .i64 0)∧WA.frozen? ⟨w.heap.size+1,0,none⟩=false∧WA.frozen? ⟨w.heap.size+1,1,none⟩=false∧WA.heap.size=w.heap.size+2):=hide (by subst hWA;exact ⟨by simp [go_sem],by simp [go_sem],by simp [go_sem],by simp [go_sem],by simp [go_sem],by simp⟩)
 clear hWA KB
 go_wp2
 go_loopw [6,21] (fun tv iv wr=> ∃ (i t:Nat) (fa:List UInt8→Option Value) (out:List (List Kn.Nv)) (AV:List (Option Addr × Nat)),i≤l.length∧iv= .int .i64 i∧Hid (VI w.heap.size (w2.heap.size+1+1) (w2.heap.size+1) WA P n l R i t fa tv out AV wr)) (fun _ iv _=>l.length - (intOf iv).toNat)
 case atStart=>exact ⟨0,0,_,_,_,Nat.zero_le _,rfl,V0⟩
 case round=>
  obtain ⟨i,t,fa,out,AV,hil,rfl,HI⟩:=hrel
  have K0:=hide (KA.out.trans HI.out.kp)
  by_cases hlt:i<l.length
  ·have d1:decide ((i:Int)<(l.length:Int))=true:=by simp;omega
   obtain ⟨b,off,nm,at',ps,body,uP,uB,rfl,hPb,hd,m0,m1,m2,m3,hP,hB⟩:=GL.nth (HS.out.keep K0.out (by simp) (fun d c h=>h.keep K0.out (by simp))) i hlt
   obtain ⟨aP,cP,rfl,-⟩:=id hP
   obtain ⟨aB,cB,rfl⟩:=hB.slice
   have heq:=HI.out.eq
   rw [show l.drop i=Sx.tG nm at' ps body::l.drop (i+1) from drop_nth hd] at heq
   obtain ⟨s,hs,heq⟩:=obind heq
   change Kc.sg n (l.take i) (Kn.pv ps) nm body t=some s at hs
   have HP:=hide hP
   have HB:=hide hB
   have hgp: ∀ x y,Kn.abv (l.take i) x=some y→(Sx.gP y).length≤1000000:=fun x y hxy=>by
    have:=HP6.out y (List.mem_of_mem_take (Kn.abv_mem hxy))
    omega
   have hPg: ∀ b,P b→b<w2.heap.size+1+1∧b<w2.heap.size+1:=fun b hb=>by have:=hPw b hb;omega
   have hnn:Kn.abv (l.take i) nm=none:=by
    rcases oif hs with ⟨h,_⟩|⟨_,h⟩
    ·exact h.1
    ·cases h
   have CS:=hide (fun W (hk:Kp [] wr W)=>kStage_ok (w2.heap.size+1+1) (w2.heap.size+1) i fa W P n (l.take i) nm at' (-2 - (i:Int)) ps body aP aB cP cB t s (HI.out.ck.kp hk) (by omega) (HP.out.keep hk (by simp) (fun d c h=>h)) (HB.out.keep hk (by simp)) (HI.out.ab.keep hk (by simp)) hgp hPg hs)
   have HTK:Hid (l.take (i+1)=l.take i++[Sx.tG nm at' ps body]):=hide (by rw [List.take_add_one,hd];rfl)
   have HEQ:Hid (Kc.stg n s.at' (l.take (i+1)) (out++[s.bd]) (l.drop (i+1))=some R):=hide (by rw [HTK.out];exact heq)
   have hk0:(0:Int)≤(i:Int):=by omega
   have hk1:(i:Int)<(l.length:Int):=by omega
   have hwr:wrap64 (-2 - (i:Int))= -2 - (i:Int):=by simp only [wrap64];omega
   clear hP hB hd heq hgp hs
   go_wp2_with fail
   refine (CS.out _ ((Kp.refl _ _).alloc _)).mono ?_
   rintro e w5 ⟨rfl,av,cv,hg⟩
   have k5:=hg.kp
   have kA:=(Kp.refl [] wr).alloc (.cells #[.string (bs nm),.int .i64 at',.slice aP ps.length cP,.slice aB body.length cB] 70)
   have HO5:Hid (w5.ownsRow (w2.heap.size+1+1+1) 39 1 u6 i (Kc.us AV out)):=hide (own_keepv (own_keepv HI.out.ow (fun b hb=>kA.block b (HI.out.ow.lt b hb).2 (by simp))) (fun b hb=>k5.block b (Nat.lt_of_lt_of_le (HI.out.ow.lt b hb).2 kA.size) (by have:=(HI.out.ow.lt b hb).1;simp;omega)))
   have hu6: ∀ b,u6.ownBlock=some b→b<wr.heap.size:=fun b e=>(HI.out.ow.lt b e).2
   have hwl:=K0.out.size
   have R6:Hid (RO w.heap.size (w2.heap.size+1+1) (w2.heap.size+1) w5 u6 (out++[s.bd]) (AV++[(av,cv)])):=hide (((HI.out.rr.keep kA (by simp) (fun b e=> .inl e)).keep k5 (fun b hb=>by simp at hb;rcases hb with h|h;exact .inl (by omega);exact .inr (.inl h)) (fun b e=> .inl e)).snoc (W:=wr.heap.size) hg.own (fun j hj=>by
    obtain ⟨n1,n2⟩:=hg.nb j hj
    simp at n2
    exact ⟨by omega,n1,fun e=>by have:=hu6 j e;omega,by omega⟩) (fun k y q h1 h2 j hj=>((HI.out.rr.at' k y q h1 h2).1.lt j hj).2))
   have hdis: ∀ k,k ∈ [w2.heap.size+1+1,w2.heap.size+1]→ ¬ P k:=fun k hk hp=>by have:=hPg k hp;simp at hk;omega
   have AB6:Hid (ABv ⟨w2.heap.size+1+1,0,0,w2.heap.size+1,i+1,upd fa nm (.agg #[.string (bs nm),.int .i64 at',.slice aP ps.length cP,.slice aB body.length cB])⟩ w5 P (l.take (i+1))):=hide (by rw [HTK.out];exact ABv.snoc ((HI.out.ab.keep kA (by simp)).keep k5 hdis) hnn ((HP.out.keep kA (by simp) (fun d c h=>h)).keep k5 hdis (fun d c h=>h)))
   have CK6:=hide hg.ck
   obtain ⟨x1,x2,x3,x4,x5,x6⟩:=HA0.out
   have KW:Hid (Kp [] WA w5):=hide (Kp.new (Kp.new (((HI.out.kp.alloc _).mono (by simp)).trans k5) (by omega)) (by omega))
   have HS5:Hid (w2.heap.size+1+1+1≤w5.heap.size):=hide (by have:=hg.ck.lt;omega)
   have v07:(w5.alloc (.cells #[.int .i64 0,.int .i64 0] 28)).cell? ⟨w2.heap.size+1+1,0,none⟩=some (.slice av s.bd.length cv):=((Kp.refl [] _).alloc _).some hg.c0 (by simp)
   have hlo:=HI.out.lo
   have hln:=HI.out.rr.ln
   clear hg hnn k5 kA hdis x1 x2 x3 x4 x5
   go_wp2_with (at_builtin;refine wpList_append_lies _ rfl _ _ 64 rfl (w2.heap.size+1+1+1) 39 i0 (.slice none 0 0) 1 24 Tryz.underlying64 hi0 hz0 hz1 hz2 rfl (by decide) _ _ _ rfl (by exact (HO5.out.alloc _).alloc _) ⟨w5.heap.size+1,0,none⟩ 1 1 [.slice av s.bd.length cv] rfl rfl (by have:=tnew (w5.alloc (.cells #[.int .i64 0,.int .i64 0] 28)) (.slice av s.bd.length cv) 39;simpa using this) (by intro u hu;simp at hu;subst hu;rfl) (by decide) (by unfold maxLen;omega) (by omega) (by have:=HS5.out;simp;omega) _ rfl ?_;intro gg cap2 w7 hown hgrow hat hlt7)
   have M7:Hid (VI w.heap.size (w2.heap.size+1+1) (w2.heap.size+1) WA P n l R (i+1) s.at' (upd fa nm (.agg #[.string (bs nm),.int .i64 at',.slice aP ps.length cP,.slice aB body.length cB])) (.slice (some ⟨gg,0,none⟩) (i+1) cap2) (out++[s.bd]) (AV++[(av,cv)]) w7):=hide (by
    have kb:Kp [] w5 ((w5.alloc (.cells #[.int .i64 0,.int .i64 0] 28)).alloc (.cells #[.slice av s.bd.length cv] 39)):=((Kp.refl _ _).alloc _).alloc _
    have hgrow':((w5.alloc (.cells #[.int .i64 0,.int .i64 0] 28)).alloc (.cells #[.slice av s.bd.length cv] 39)).grownBy w7 u6.ownBlock:=hgrow
    have kg:Kp u6.ownBlock.toList ((w5.alloc (.cells #[.int .i64 0,.int .i64 0] 28)).alloc (.cells #[.slice av s.bd.length cv] 39)) w7:=(Kp.refl _ _).grown hgrow' (fun k hk=> .inr (by rw [hk];simp))
    have hlo6: ∀ b,u6.ownBlock=some b→w2.heap.size+1+1+1≤b:=fun b e=>(HO5.out.lt b e).1
    exact ⟨(CK6.out.kp kb).keepS kg (fun hm=>by simp at hm;have:=hlo6 _ hm;omega) (fun hm=>by simp at hm;have:=hlo6 _ hm;omega),(AB6.out.keep kb (by simp)).keep kg (fun k hk hp=>by simp at hk;have:=hlo6 _ hk;have:=hPg k hp;omega),by rw [Kc.us_snoc _ _ hln];exact hown,(R6.out.keep kb (by simp) (fun b e=> .inl e)).keep kg (fun b hb=>by simp at hb;exact .inr (.inr (.inr hb))) (fun b e=>by cases e;exact hat.imp id (fun e=>by rw [e];simp)),by simp [hlo],((KW.out.trans kb).grown hgrow (fun k hk=> .inl (by have:=hlo6 k hk;omega))),HEQ.out⟩)
   clear hown hgrow hat
   go_wp2
   go_roundw
   case rel=>exact ⟨i+1,_,_,_,_,by omega,by go_num,M7⟩
   case measure=>simp [intOf];omega
  ·obtain rfl:i=l.length:=by omega
   have d1:decide ((l.length:Int)<(l.length:Int))=false:=by simp
   obtain ⟨x1,x2,x3,x4,x5,x6⟩:=HA0.out
   have p0:=HI.out.kp.some x1 (by simp)
   have r0:=HI.out.kp.some x2 (by simp)
   have r1:=HI.out.kp.some x3 (by simp)
   have g0:=(HI.out.kp.frozen (p:=⟨w.heap.size+1,0,none⟩) (by show w.heap.size+1<_;omega) (by simp)).trans x4
   have g1:=(HI.out.kp.frozen (p:=⟨w.heap.size+1,1,none⟩) (by show w.heap.size+1<_;omega) (by simp)).trans x5
   have heq:=HI.out.eq
   rw [List.drop_length] at heq
   cases heq
   have hlo:=HI.out.lo
   have CT:=hide (HCN.out wr K0.out)
   have HOW:=HI.out.ow
   rw [←hlo] at HOW
   obtain ⟨av,cv,rfl⟩: ∃ av cv,u6= .slice av R.length cv:=by
    rcases HOW.2 with ⟨h1,h2⟩|⟨b,cp,cur,h1,_⟩
    ·exact ⟨none,0,by rw [h1,h2]⟩
    ·exact ⟨_,_,h1⟩
   have HOO:=hide HOW
   clear x1 x2 x3 x4 x5 x6 HOW
   go_wp2_with fail
   refine CT.out.mono ?_
   rintro e w5 ⟨rfl,k5⟩
   have r05:=k5.some r0 (by simp)
   have r15:=k5.some r1 (by simp)
   have g05:=(k5.frozen (p:=⟨w.heap.size+1,0,none⟩) (World.block_lt_of_cell? _ _ r0) (by simp)).trans g0
   have g15:=(k5.frozen (p:=⟨w.heap.size+1,1,none⟩) (World.block_lt_of_cell? _ _ r1) (by simp)).trans g1
   have K5:=hide (K0.out.trans k5)
   have HK5:=hide k5
   clear k5
   go_wp2
   have kr:Kp [w.heap.size+1] wr ((w5.setCell ⟨w.heap.size+1,0,none⟩ (.int .i64 0)).setCell ⟨w.heap.size+1,1,none⟩ (.int .i64 0)):=(((HK5.out.mono (by simp)).rb 0 _).rb 1 _)
   refine bodyPost_ret (v:= .tuple #[.slice av R.length cv,.agg #[.int .i64 0,.int .i64 0]]) (by simp [results,Tryz.results19,go_sem,r05,r15,hlo]) rfl ⟨av,cv,AV,w2.heap.size+1+1,w2.heap.size+1,rfl,own_keepv HOO.out (fun b hb=>kr.block b (HOO.out.lt b hb).2 (by have:=(HOO.out.lt b hb).1;simp;omega)),HI.out.rr.keep kr (fun b hb=>by simp at hb;exact .inl (by omega)) (fun b e=> .inl e),by omega,(K5.out.nb (by omega) _ _).nb (by omega) _ _⟩
end Go.Proofs.YtbhhkaobkdeolaaGreatDoor
