import Derived.Test.YtcdcoiobpbdmpaaGreatDoorMbl
import Derived.Test.YtcdcoiobpbdmpaaGreatDoorMbd
namespace Go.Proofs.YtcdcoiobpbdmpaaGreatDoor
open Go.RowKit Go.Maps Go.ChangeMaps
theorem Kn.cs_goS (n deep:Nat) (hb: ∀ deep a b l,Rn.bf n deep a l= .inl b→a+Kn.cs n l=b): ∀ (l:List Sx.Tr) (a b:Nat),Rn.goS (Rn.b1 n deep) a l= .inl b→a+(l.map fun t=>1+Kn.cs n (Sx.sB t)+Kn.cs n (Sx.sO t)).sum=b:=by
 intro l
 induction l with
 |nil=>intro a b h;cases h;rfl
 |cons t r ih=>
  intro a b h
  obtain ⟨c,h1,h2⟩:=Rn.thn_le (m:=Rn.b1 n deep a t) (k:=fun b=>Rn.goS (Rn.b1 n deep) b r) h
  have h3:=ih c b h2
  unfold Rn.b1 at h1
  split at h1
  ·cases h1
  ·split at h1
   ·cases h1
   ·obtain ⟨e,h4,h5⟩:=Rn.thn_le h1
    have h6:=hb _ _ _ _ h4
    have h7:=hb _ _ _ _ h5
    simp only [List.map_cons,List.sum_cons]
    omega
theorem Kn.cs_bf: ∀ (n deep a b:Nat) (l:List Sx.Tr),Rn.bf n deep a l= .inl b→a+Kn.cs n l=b:=by
 intro n
 induction n with
 |zero=>intro deep a b l h;cases h;rfl
 |succ n ih=>
  intro deep a b l h
  rw [Rn.bf_goS] at h
  exact Kn.cs_goS n deep (fun deep a b l h=>ih deep a b l h) l a b h
theorem Kn.gf_cons {n i a b:Nat} {g:Sx.Tr} {r:List Sx.Tr} (h:Rn.gf n i a (g::r)= .inl b):Rn.hf g=0∧Rn.okB n (Sx.gB g)∧Rn.gf n (i+1) (a+Kn.cs n (Sx.gB g)) r= .inl b∧(a≤300→a+Kn.cs n (Sx.gB g)≤300):=by
 have h':(if Rn.hf g ≠ 0 then Sum.inr (Rn.hf g,-2 - (i:Int)) else Rn.thn (Rn.bf n 1 a (Sx.gB g)) fun b=>Rn.gf n (i+1) b r)= .inl b:=h
 split at h'
 ·cases h'
 ·rename_i h0
  obtain ⟨c,h1,h2⟩:=Rn.thn_le h'
  have h3:=Kn.cs_bf n 1 a c _ h1
  exact ⟨Decidable.byContradiction h0,⟨_,_,_,h1⟩,by rw [h3];exact h2,fun ha=>by rw [h3];exact Rn.bf_le n 1 a c _ ha h1⟩
theorem Kn.hf_ty {g:Sx.Tr} (h:Rn.hf g=0):(Sx.gN g).length≤12∧(Sx.gP g).length≤6∧Kn.Tyv (Kn.par g):=by
 unfold Rn.hf at h
 split at h
 ·cases h
 rename_i h1
 split at h
 ·cases h
 rename_i h2
 have h3:=Rn.firstOf_zero h
 refine ⟨Rn.isN_len (by simpa using h1),by omega,fun v hv=> ?_⟩
 unfold Kn.par at hv
 obtain ⟨p,hp,rfl⟩:=List.mem_map.1 hv
 have h4:=h3 p hp
 split at h4
 ·cases h4
 rename_i h5
 split at h4
 ·cases h4
 rename_i h6
 have h7:Rn.isT (Sx.pH p).2 3=true:=by simpa using h6
 unfold Rn.isT at h7
 rw [Bool.and_eq_true] at h7
 have h8:((Sx.pH p).2.length:Int) - 1≤3:=by simpa using h7.2
 exact ⟨h7.1,by show (Sx.pH p).2.length≤4;omega,Rn.isN_len (by simpa using h5)⟩
set_option maxRecDepth 100000 in
set_option maxHeartbeats 1000000 in
theorem isMain_any (w:World) (P:Nat→Prop) (nm:List UInt8) (at':Int) (ps body:List Sx.Tr) (aP:Option Addr) (cP:Nat) (uB:Value) (hS:Sl RP w P ps (.slice aP ps.length cP)) (hl:ps.length≤6):
  Calls Tryz.prog 25 #[.agg #[.string (bs nm),.int .i64 at',.slice aP ps.length cP,uB]] w fun e w'=>e= .returned (.bool (Kn.isMain (Sx.tG nm at' ps body)))∧Kp [] w w':=by
 have em:((bs nm).toList == [109,97,105,110])=(nm == [109,97,105,110]):=by rw [bsl]
 by_cases h1:nm=[109,97,105,110]
 ·have q1:(nm == [109,97,105,110])=true:=by simpa using h1
  rw [q1] at em
  match ps,hS,hl with
  |[],_,_=>
   have e1:Kn.isMain (Sx.tG nm at' [] body)=false:=by
    show (nm == [109,97,105,110] && false)=false
    simp
   rw [e1]
   clear h1 q1 e1
   go_enter Tryz.func25,Tryz.ntmps25
   go_wp2
   go_ret
   exact ⟨rfl,(Kp.refl _ _).alloc _⟩
  |[p],hS,_=>
   obtain ⟨b,off,nm1,T1,rfl,hd,m0,m1⟩:=hS.nth' 0 (by simp)
   have hp:p=Sx.tP nm1 T1:=by simpa using hd
   have e1:Kn.isMain (Sx.tG nm at' [p] body)=(T1 == [114,105]):=by
    show (nm == [109,97,105,110] && ((Sx.pH p).2 == [114,105]))=_
    rw [q1,hp]
    rfl
   have e2:((bs T1).toList == [114,105])=(T1 == [114,105]):=by rw [bsl]
   rw [e1]
   have m1':w.cell? ⟨b,off+1,none⟩=some (.string (bs T1)):=by simpa using m1
   have hb:=World.block_lt_of_cell? _ _ m1'
   clear h1 q1 e1 hd hp m0 m1 hS
   generalize (T1 == [114,105])=X at *
   go_enter Tryz.func25,Tryz.ntmps25
   go_wp2
   go_ret
   exact ⟨rfl,(Kp.refl _ _).alloc _⟩
  |p::q::r,_,hl=>
   have e1:Kn.isMain (Sx.tG nm at' (p::q::r) body)=false:=by
    show (nm == [109,97,105,110] && false)=false
    simp
   rw [e1]
   have e2:(((p::q::r).length:Int) == 1)=false:=by simp;omega
   clear h1 q1 e1
   generalize (p::q::r).length=L at *
   go_enter Tryz.func25,Tryz.ntmps25
   go_wp2
   go_ret
   exact ⟨rfl,(Kp.refl _ _).alloc _⟩
 ·have q1:(nm == [109,97,105,110])=false:=by simpa using h1
  rw [q1] at em
  have e1:Kn.isMain (Sx.tG nm at' ps body)=false:=by
   show (nm == [109,97,105,110] && _)=false
   rw [q1]
   rfl
  rw [e1]
  clear h1 q1 e1
  go_enter Tryz.func25,Tryz.ntmps25
  go_wp2
  go_ret
  exact ⟨rfl,(Kp.refl _ _).alloc _⟩
set_option maxRecDepth 100000 in
set_option maxHeartbeats 1000000 in
theorem kIndex_any (n:Nat) (w:World) (P:Nat→Prop) (l:List Sx.Tr) (a:Option Addr) (cap:Nat) (h:Sl (RG w P n) w P l (.slice a l.length cap)) (hl:l.length≤10) (hp: ∀ g ∈ l,(Sx.gP g).length≤6):
  Calls Tryz.prog 43 #[.slice a l.length cap,.func (.func 25) #[] #[]] w fun e w'=> ∃ z:Int,e= .returned (.int .i64 z)∧decide (0≤z)=l.any Kn.isMain∧Kp [] w w':=by
 have HS:=hide h
 have HP:=hide hp
 clear h hp
 go_enter Tryz.func43,Tryz.ntmps43
 go_wp2
 go_loopw [8] (fun iv wr=> ∃ i:Nat,i≤l.length∧iv= .int .i64 i∧Hid (Kp [] w wr)∧Hid (l.any Kn.isMain=(l.drop i).any Kn.isMain)) (fun iv _=>l.length - (intOf iv).toNat)
 case atStart=>exact ⟨0,Nat.zero_le _,rfl,hide (Kp.refl _ _),rfl⟩
 case round=>
  obtain ⟨i,hil,rfl,HK,HA⟩:=hrel
  by_cases hlt:i<l.length
  ·have d1:decide ((i:Int)<(l.length:Int))=true:=by simp;omega
   obtain ⟨b,off,nm,at',ps,body,uP,uB,rfl,-,hd,m0,m1,m2,m3,hP,hB⟩:=GL.nth (HS.out.keep HK.out (by simp) (fun d c h=>h.keep HK.out (by simp))) i hlt
   obtain ⟨aP,cP,rfl,-⟩:=id hP
   obtain ⟨aB,cB,rfl⟩:=hB.slice
   have hp6:ps.length≤6:=HP.out _ (List.mem_of_getElem? hd)
   have CM:=hide (isMain_any wr P nm at' ps body aP cP (.slice aB body.length cB) hP hp6)
   have HA2:Hid (l.any Kn.isMain=(Kn.isMain (Sx.tG nm at' ps body) || (l.drop (i+1)).any Kn.isMain)):=hide (by rw [HA.out,drop_nth hd];rfl)
   have hk0:(0:Int)≤(i:Int):=by omega
   have hk1:(i:Int)<(l.length:Int):=by omega
   generalize Kn.isMain (Sx.tG nm at' ps body)=M at *
   clear hP hB hd
   cases M with
   |true=>
    have HT:Hid (l.any Kn.isMain=true):=hide (by rw [HA2.out];rfl)
    clear HA HA2
    go_wp2_with fail
    refine CM.out.mono ?_
    rintro e w1 ⟨rfl,k1⟩
    have K1:=hide (HK.out.trans k1)
    clear k1
    go_wp2
    go_ret
    exact ⟨i,rfl,by rw [HT.out];simp,K1.out⟩
   |false=>
    have HT:Hid (l.any Kn.isMain=(l.drop (i+1)).any Kn.isMain):=hide (by rw [HA2.out];rfl)
    clear HA HA2
    go_wp2_with fail
    refine CM.out.mono ?_
    rintro e w1 ⟨rfl,k1⟩
    have K1:=hide (HK.out.trans k1)
    clear k1
    go_wp2
    go_roundw
    case rel=>exact ⟨i+1,by omega,by go_num,K1,HT⟩
    case measure=>simp [intOf];omega
  ·obtain rfl:i=l.length:=by omega
   have d1:decide ((l.length:Int)<(l.length:Int))=false:=by simp
   go_wp2
   go_ret
   refine ⟨-1,rfl,?_,HK.out⟩
   rw [HA.out,List.drop_length]
   rfl
set_option maxRecDepth 100000 in
set_option maxHeartbeats 1000000 in
theorem kContains_any (n:Nat) (w:World) (P:Nat→Prop) (l:List Sx.Tr) (a:Option Addr) (cap:Nat) (h:Sl (RG w P n) w P l (.slice a l.length cap)) (hl:l.length≤10) (hp: ∀ g ∈ l,(Sx.gP g).length≤6):
  Calls Tryz.prog 24 #[.slice a l.length cap,.func (.func 25) #[] #[]] w fun e w'=>e= .returned (.bool (l.any Kn.isMain))∧Kp [] w w':=by
 have CI:=hide (kIndex_any n w P l a cap h hl hp)
 generalize l.any Kn.isMain=M at *
 go_enter Tryz.func24,Tryz.ntmps24
 go_wp2_with fail
 refine CI.out.mono ?_
 rintro e w1 ⟨z,rfl,hz,k1⟩
 have K1:=hide k1
 clear k1
 go_wp2
 go_ret
 exact ⟨by first|rfl|(rw [←hz];rfl)|(rw [hz]),K1.out⟩
theorem Kn.stg_sg (n i a:Nat) (ab:List Sx.Tr) (out:List (List Kn.Nv)) (g:Sx.Tr) (r:List Sx.Tr):Kn.stg n i a ab out (g::r)=match Kn.sg n ab (Kn.par g) (Sx.gN g) (Sx.gB g) a (-2 - (i:Int)) with
  | .inr f=> .inr f
  | .inl s=>Kn.stg n (i+1) s.at' (ab++[g]) (out++[s.bd]) r:=by
 show (if (Kn.abv ab (Sx.gN g)).isSome || Kn.twiceP [] (Kn.par g) then Sum.inr (9,-2 - (i:Int)) else match Kn.sts n ab ⟨Kn.par g,Kn.par g,a⟩ (Sx.gB g) with
  | .inr f=> .inr f
  | .inl s=>if 30<s.bd.length then .inr (8,-2 - (i:Int)) else Kn.stg n (i+1) s.at' (ab++[g]) (out++[s.bd]) r)=_
 unfold Kn.sg
 split
 ·rfl
 ·cases Kn.sts n ab ⟨Kn.par g,Kn.par g,a⟩ (Sx.gB g) with
  |inr f=>rfl
  |inl s=>
   dsimp only
   split<;> rfl
theorem Kn.sg_new {n a:Nat} {ab:List Sx.Tr} {V:List Kn.Nv} {nm:List UInt8} {body:List Sx.Tr} {k:Int} {s:Kn.St} (h:Kn.sg n ab V nm body a k= .inl s):Kn.abv ab nm=none∧Kn.sts n ab ⟨V,V,a⟩ body= .inl s:=by
 unfold Kn.sg at h
 split at h
 ·cases h
 ·rename_i h1
  refine ⟨?_,?_⟩
  ·cases hh:Kn.abv ab nm with
   |none=>rfl
   |some y=>rw [hh] at h1;simp at h1
  ·cases hs:Kn.sts n ab ⟨V,V,a⟩ body with
   |inr f=>rw [hs] at h;cases h
   |inl s'=>
    rw [hs] at h
    dsimp only at h
    split at h
    ·cases h
    ·exact h
theorem Kn.abv_snoc (ab:List Sx.Tr) (g:Sx.Tr) (x:List UInt8):Kn.abv (ab++[g]) x=match Kn.abv ab x with
  |some y=>some y
  |none=>if Sx.gN g=x then some g else none:=by
 induction ab with
 |nil=>rfl
 |cons y r ih=>
  show (if Sx.gN y=x then some y else Kn.abv (r++[g]) x)=_
  by_cases h:Sx.gN y=x
  ·rw [if_pos h]
   show _=match (if Sx.gN y=x then some y else Kn.abv r x) with
    |some y=>some y
    |none=>if Sx.gN g=x then some g else none
   rw [if_pos h]
  ·rw [if_neg h,ih]
   show _=match (if Sx.gN y=x then some y else Kn.abv r x) with
    |some y=>some y
    |none=>if Sx.gN g=x then some g else none
   rw [if_neg h]
theorem ABv.snoc {g ma na:Nat} {fa:List UInt8→Option Value} {w:World} {P:Nat→Prop} {ab:List Sx.Tr} {nm:List UInt8} {at':Int} {ps body:List Sx.Tr} {aP aB:Option Addr} {cP cB m:Nat} (h:ABv ⟨g,0,0,ma,na,fa⟩ w P ab) (hn:Kn.abv ab nm=none) (hS:Sl RP w P ps (.slice aP ps.length cP)):
  ABv ⟨g,0,0,ma,m,upd fa nm (.agg #[.string (bs nm),.int .i64 at',.slice aP ps.length cP,.slice aB body.length cB])⟩ w P (ab++[Sx.tG nm at' ps body]):=by
 refine ⟨fun x hx=> ?_,fun x y hx=> ?_⟩
 ·rw [Kn.abv_snoc] at hx
  cases hh:Kn.abv ab x with
  |some y=>rw [hh] at hx;cases hx
  |none=>
   rw [hh] at hx
   dsimp only at hx
   split at hx
   ·cases hx
   ·rename_i hne
    show upd fa nm _ x=none
    unfold upd
    rw [if_neg (fun e=>hne e.symm)]
    exact h.no x hh
 ·rw [Kn.abv_snoc] at hx
  show ∃ nm' at2 uP aB2 nB2 cB2,upd fa nm _ x=some (.agg #[.string (bs nm'),.int .i64 at2,uP,.slice aB2 nB2 cB2])∧Sl RP w P (Sx.gP y) uP
  cases hh:Kn.abv ab x with
  |some y'=>
   rw [hh] at hx
   dsimp only at hx
   obtain rfl:=Option.some.inj hx
   have hne:x ≠ nm:=fun e=>by rw [e,hn] at hh;cases hh
   unfold upd
   rw [if_neg hne]
   exact h.yes x y' hh
  |none=>
   rw [hh] at hx
   dsimp only at hx
   split at hx
   ·rename_i he
    obtain rfl:=Option.some.inj hx
    have he':x=nm:=he.symm
    unfold upd
    rw [if_pos he']
    exact ⟨nm,at',_,_,_,_,rfl,hS⟩
   ·cases hx
def Kc.us (AV:List (Option Addr × Nat)) (out:List (List Kn.Nv)):List Value:=(AV.zip out).map fun p=> .slice p.1.1 p.2.length p.1.2
structure RO (B g ma:Nat) (w:World) (av:Value) (out:List (List Kn.Nv)) (AV:List (Option Addr × Nat)):Prop where
 ln:AV.length=out.length
 at': ∀ (k:Nat) x a,out[k]? =some x→AV[k]? =some a→w.ownsRow (g+1) 98 2 (.slice a.1 x.length a.2) x.length (vcells x)∧ ∀ j,(Value.slice a.1 x.length a.2).ownBlock=some j→B≤j∧j ≠ ma∧av.ownBlock ≠ some j
 ap: ∀ (k k2:Nat) x x2 a a2,k ≠ k2→out[k]? =some x→out[k2]? =some x2→AV[k]? =some a→AV[k2]? =some a2→ ∀ j,(Value.slice a.1 x.length a.2).ownBlock=some j→(Value.slice a2.1 x2.length a2.2).ownBlock ≠ some j
theorem RO.keep {B g ma:Nat} {w w':World} {av av':Value} {out:List (List Kn.Nv)} {AV:List (Option Addr × Nat)} {S:List Nat} (h:RO B g ma w av out AV) (hk:Kp S w w') (hS: ∀ b,b ∈ S→b≤g∨b=ma∨b<B∨av.ownBlock=some b) (hv: ∀ b,av'.ownBlock=some b→av.ownBlock=some b∨w.heap.size≤b):RO B g ma w' av' out AV:=
 ⟨h.ln,fun k x a hx ha=>by
  obtain ⟨h1,h2⟩:=h.at' k x a hx ha
  refine ⟨own_keepv h1 (fun j hj=>hk.block j (h1.lt j hj).2 (fun hm=> ?_)),fun j hj=>⟨(h2 j hj).1,(h2 j hj).2.1,fun e=> ?_⟩⟩
  ·have:=(h1.lt j hj).1
   obtain ⟨q1,q2,q3⟩:=h2 j hj
   rcases hS j hm with e|e|e|e
   ·omega
   ·exact q2 e
   ·omega
   ·exact q3 e
  ·rcases hv j e with e|e
   ·exact (h2 j hj).2.2 e
   ·have:=(h1.lt j hj).2;omega,h.ap⟩
theorem RO.snoc {B g ma:Nat} {w:World} {av:Value} {out:List (List Kn.Nv)} {AV:List (Option Addr × Nat)} {x:List Kn.Nv} {a:Option Addr} {c W:Nat} (h:RO B g ma w av out AV) (ho:w.ownsRow (g+1) 98 2 (.slice a x.length c) x.length (vcells x)) (hb: ∀ j,(Value.slice a x.length c).ownBlock=some j→B≤j∧j ≠ ma∧av.ownBlock ≠ some j∧W≤j)
  (hW: ∀ (k:Nat) y q,out[k]? =some y→AV[k]? =some q→ ∀ j,(Value.slice q.1 y.length q.2).ownBlock=some j→j<W):RO B g ma w av (out++[x]) (AV++[(a,c)]):=by
 have hln:=h.ln
 have key: ∀ (k:Nat) y q,(out++[x])[k]? =some y→(AV++[(a,c)])[k]? =some q→(out[k]? =some y∧AV[k]? =some q)∨(k=out.length∧y=x∧q=(a,c)):=fun k y q h1 h2=>by
  rcases Nat.lt_trichotomy k out.length with hk|hk|hk
  ·rw [List.getElem?_append_left hk] at h1
   rw [List.getElem?_append_left (by omega)] at h2
   exact .inl ⟨h1,h2⟩
  ·subst hk
   rw [List.getElem?_append_right (Nat.le_refl _),Nat.sub_self] at h1
   rw [←hln,List.getElem?_append_right (Nat.le_refl _),Nat.sub_self] at h2
   cases h1
   cases h2
   exact .inr ⟨rfl,rfl,rfl⟩
  ·rw [List.getElem?_eq_none (by simp;omega)] at h1
   cases h1
 refine ⟨by simp [hln],fun k y q h1 h2=> ?_,fun k k2 y y2 q q2 hne h1 h2 h3 h4 j hj hj2=> ?_⟩
 ·rcases key k y q h1 h2 with ⟨e1,e2⟩|⟨-,rfl,rfl⟩
  ·exact h.at' k y q e1 e2
  ·exact ⟨ho,fun j hj=>⟨(hb j hj).1,(hb j hj).2.1,(hb j hj).2.2.1⟩⟩
 ·rcases key k y q h1 h3 with ⟨e1,e2⟩|⟨e0,rfl,rfl⟩
  ·rcases key k2 y2 q2 h2 h4 with ⟨e3,e4⟩|⟨-,rfl,rfl⟩
   ·exact h.ap k k2 y y2 q q2 hne e1 e3 e2 e4 j hj hj2
   ·have:=hW k y q e1 e2 j hj
    have:=(hb j hj2).2.2.2
    omega
  ·rcases key k2 y2 q2 h2 h4 with ⟨e3,e4⟩|⟨e5,-,-⟩
   ·have:=hW k2 y2 q2 e3 e4 j hj2
    have:=(hb j hj).2.2.2
    omega
   ·omega
theorem Kc.us_snoc (AV:List (Option Addr × Nat)) (out:List (List Kn.Nv)) (h:AV.length=out.length) (a:Option Addr) (c:Nat) (x:List Kn.Nv):Kc.us (AV++[(a,c)]) (out++[x])=Kc.us AV out++[.slice a x.length c]:=by
 unfold Kc.us
 rw [List.zip_append h]
 simp
end Go.Proofs.YtcdcoiobpbdmpaaGreatDoor
