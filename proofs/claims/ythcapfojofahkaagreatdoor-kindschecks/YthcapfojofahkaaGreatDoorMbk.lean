import Derived.Test.YthcapfojofahkaaGreatDoorMbj
import Derived.Test.YthcapfojofahkaaGreatDoorMba
namespace Go.Proofs.YthcapfojofahkaaGreatDoor
open Go.RowKit Go.Maps Go.ChangeMaps
theorem Kn.cs_goS (n deep:Nat) (hb: ∀ deep a b l,Rn.bf n deep a l= .inl b→a+Kn.cs n l=b): ∀ (l:List Sx.Tr) (a b:Nat),Rn.goS (Rn.b1 n deep) a l= .inl b→a+(l.map fun t=>1+Kn.cs n (Sx.sB t)+Kn.cs n (Sx.sO t)).sum=b:=by
 intro l
 induction l with
 |nil=>intro a b h;cases h;rfl
 |cons t r ih=>
  intro a b h
  obtain ⟨c,h1,h2⟩:=Rn.thn_le (m:=Rn.b1 n deep a t) (k:=fun b=>Rn.goS (Rn.b1 n deep) b r) h
  have h3:=ih c b h2
  unfold Rn.b1 at h1
  split at h1
  ·cases h1
  ·split at h1
   ·cases h1
   ·obtain ⟨e,h4,h5⟩:=Rn.thn_le h1
    have h6:=hb _ _ _ _ h4
    have h7:=hb _ _ _ _ h5
    simp only [List.map_cons,List.sum_cons]
    omega
theorem Kn.cs_bf: ∀ (n deep a b:Nat) (l:List Sx.Tr),Rn.bf n deep a l= .inl b→a+Kn.cs n l=b:=by
 intro n
 induction n with
 |zero=>intro deep a b l h;cases h;rfl
 |succ n ih=>
  intro deep a b l h
  rw [Rn.bf_goS] at h
  exact Kn.cs_goS n deep (fun deep a b l h=>ih deep a b l h) l a b h
theorem Kn.gf_cons {n i a b:Nat} {g:Sx.Tr} {r:List Sx.Tr} (h:Rn.gf n i a (g::r)= .inl b):Rn.hf g=0∧Rn.okB n (Sx.gB g)∧Rn.gf n (i+1) (a+Kn.cs n (Sx.gB g)) r= .inl b∧(a≤300→a+Kn.cs n (Sx.gB g)≤300):=by
 have h':(if Rn.hf g ≠ 0 then Sum.inr (Rn.hf g,-2 - (i:Int)) else Rn.thn (Rn.bf n 1 a (Sx.gB g)) fun b=>Rn.gf n (i+1) b r)= .inl b:=h
 split at h'
 ·cases h'
 ·rename_i h0
  obtain ⟨c,h1,h2⟩:=Rn.thn_le h'
  have h3:=Kn.cs_bf n 1 a c _ h1
  exact ⟨Decidable.byContradiction h0,⟨_,_,_,h1⟩,by rw [h3];exact h2,fun ha=>by rw [h3];exact Rn.bf_le n 1 a c _ ha h1⟩
theorem Kn.hf_ty {g:Sx.Tr} (h:Rn.hf g=0):(Sx.gN g).length≤12∧(Sx.gP g).length≤6∧Kn.Tyv (Kn.par g):=by
 unfold Rn.hf at h
 split at h
 ·cases h
 rename_i h1
 split at h
 ·cases h
 rename_i h2
 have h3:=Rn.firstOf_zero h
 refine ⟨Rn.isN_len (by simpa using h1),by omega,fun v hv=> ?_⟩
 unfold Kn.par at hv
 obtain ⟨p,hp,rfl⟩:=List.mem_map.1 hv
 have h4:=h3 p hp
 split at h4
 ·cases h4
 rename_i h5
 split at h4
 ·cases h4
 rename_i h6
 have h7:Rn.isT (Sx.pH p).2 3=true:=by simpa using h6
 unfold Rn.isT at h7
 rw [Bool.and_eq_true] at h7
 have h8:((Sx.pH p).2.length:Int) - 1≤3:=by simpa using h7.2
 exact ⟨h7.1,by show (Sx.pH p).2.length≤4;omega,Rn.isN_len (by simpa using h5)⟩
set_option maxRecDepth 100000 in
set_option maxHeartbeats 1000000 in
theorem isMain_any (w:World) (P:Nat→Prop) (nm:List UInt8) (at':Int) (ps body:List Sx.Tr) (aP:Option Addr) (cP:Nat) (uB:Value) (hS:Sl RP w P ps (.slice aP ps.length cP)) (hl:ps.length≤6):
  Calls Tryz.prog 22 #[.agg #[.string (bs nm),.int .i64 at',.slice aP ps.length cP,uB]] w fun e w'=>e= .returned (.bool (Kn.isMain (Sx.tG nm at' ps body)))∧Kp [] w w':=by
 have em:((bs nm).toList == [109,97,105,110])=(nm == [109,97,105,110]):=by rw [bsl]
 by_cases h1:nm=[109,97,105,110]
 ·have q1:(nm == [109,97,105,110])=true:=by simpa using h1
  rw [q1] at em
  match ps,hS,hl with
  |[],_,_=>
   have e1:Kn.isMain (Sx.tG nm at' [] body)=false:=by
    show (nm == [109,97,105,110] && false)=false
    simp
   rw [e1]
   clear h1 q1 e1
   go_enter Tryz.func22,Tryz.ntmps22
   go_wp2
   go_ret
   exact ⟨rfl,(Kp.refl _ _).alloc _⟩
  |[p],hS,_=>
   obtain ⟨b,off,nm1,T1,rfl,hd,m0,m1⟩:=hS.nth' 0 (by simp)
   have hp:p=Sx.tP nm1 T1:=by simpa using hd
   have e1:Kn.isMain (Sx.tG nm at' [p] body)=(T1 == [114,105]):=by
    show (nm == [109,97,105,110] && ((Sx.pH p).2 == [114,105]))=_
    rw [q1,hp]
    rfl
   have e2:((bs T1).toList == [114,105])=(T1 == [114,105]):=by rw [bsl]
   rw [e1]
   have m1':w.cell? ⟨b,off+1,none⟩=some (.string (bs T1)):=by simpa using m1
   have hb:=World.block_lt_of_cell? _ _ m1'
   clear h1 q1 e1 hd hp m0 m1 hS
   generalize (T1 == [114,105])=X at *
   go_enter Tryz.func22,Tryz.ntmps22
   go_wp2
   go_ret
   exact ⟨rfl,(Kp.refl _ _).alloc _⟩
  |p::q::r,_,hl=>
   have e1:Kn.isMain (Sx.tG nm at' (p::q::r) body)=false:=by
    show (nm == [109,97,105,110] && false)=false
    simp
   rw [e1]
   have e2:(((p::q::r).length:Int) == 1)=false:=by simp;omega
   clear h1 q1 e1
   generalize (p::q::r).length=L at *
   go_enter Tryz.func22,Tryz.ntmps22
   go_wp2
   go_ret
   exact ⟨rfl,(Kp.refl _ _).alloc _⟩
 ·have q1:(nm == [109,97,105,110])=false:=by simpa using h1
  rw [q1] at em
  have e1:Kn.isMain (Sx.tG nm at' ps body)=false:=by
   show (nm == [109,97,105,110] && _)=false
   rw [q1]
   rfl
  rw [e1]
  clear h1 q1 e1
  go_enter Tryz.func22,Tryz.ntmps22
  go_wp2
  go_ret
  exact ⟨rfl,(Kp.refl _ _).alloc _⟩
set_option maxRecDepth 100000 in
set_option maxHeartbeats 1000000 in
theorem kIndex_any (n:Nat) (w:World) (P:Nat→Prop) (l:List Sx.Tr) (a:Option Addr) (cap:Nat) (h:Sl (RG w P n) w P l (.slice a l.length cap)) (hl:l.length≤10) (hp: ∀ g ∈ l,(Sx.gP g).length≤6):
  Calls Tryz.prog 41 #[.slice a l.length cap,.func (.func 22) #[] #[]] w fun e w'=> ∃ z:Int,e= .returned (.int .i64 z)∧decide (0≤z)=l.any Kn.isMain∧Kp [] w w':=by
 have HS:=hide h
 have HP:=hide hp
 clear h hp
 go_enter Tryz.func41,Tryz.ntmps41
 go_wp2
 go_loopw [8] (fun iv wr=> ∃ i:Nat,i≤l.length∧iv= .int .i64 i∧Hid (Kp [] w wr)∧Hid (l.any Kn.isMain=(l.drop i).any Kn.isMain)) (fun iv _=>l.length - (intOf iv).toNat)
 case atStart=>exact ⟨0,Nat.zero_le _,rfl,hide (Kp.refl _ _),rfl⟩
 case round=>
  obtain ⟨i,hil,rfl,HK,HA⟩:=hrel
  by_cases hlt:i<l.length
  ·have d1:decide ((i:Int)<(l.length:Int))=true:=by simp;omega
   obtain ⟨b,off,nm,at',ps,body,uP,uB,rfl,-,hd,m0,m1,m2,m3,hP,hB⟩:=GL.nth (HS.out.keep HK.out (by simp) (fun d c h=>h.keep HK.out (by simp))) i hlt
   obtain ⟨aP,cP,rfl,-⟩:=id hP
   obtain ⟨aB,cB,rfl⟩:=hB.slice
   have hp6:ps.length≤6:=HP.out _ (List.mem_of_getElem? hd)
   have CM:=hide (isMain_any wr P nm at' ps body aP cP (.slice aB body.length cB) hP hp6)
   have HA2:Hid (l.any Kn.isMain=(Kn.isMain (Sx.tG nm at' ps body) || (l.drop (i+1)).any Kn.isMain)):=hide (by rw [HA.out,drop_nth hd];rfl)
   have hk0:(0:Int)≤(i:Int):=by omega
   have hk1:(i:Int)<(l.length:Int):=by omega
   generalize Kn.isMain (Sx.tG nm at' ps body)=M at *
   clear hP hB hd
   cases M with
   |true=>
    have HT:Hid (l.any Kn.isMain=true):=hide (by rw [HA2.out];rfl)
    clear HA HA2
    go_wp2_with fail
    refine CM.out.mono ?_
    rintro e w1 ⟨rfl,k1⟩
    have K1:=hide (HK.out.trans k1)
    clear k1
    go_wp2
    go_ret
    exact ⟨i,rfl,by rw [HT.out];simp,K1.out⟩
   |false=>
    have HT:Hid (l.any Kn.isMain=(l.drop (i+1)).any Kn.isMain):=hide (by rw [HA2.out];rfl)
    clear HA HA2
    go_wp2_with fail
    refine CM.out.mono ?_
    rintro e w1 ⟨rfl,k1⟩
    have K1:=hide (HK.out.trans k1)
    clear k1
    go_wp2
    go_roundw
    case rel=>exact ⟨i+1,by omega,by go_num,K1,HT⟩
    case measure=>simp [intOf];omega
  ·obtain rfl:i=l.length:=by omega
   have d1:decide ((l.length:Int)<(l.length:Int))=false:=by simp
   go_wp2
   go_ret
   refine ⟨-1,rfl,?_,HK.out⟩
   rw [HA.out,List.drop_length]
   rfl
set_option maxRecDepth 100000 in
set_option maxHeartbeats 1000000 in
theorem kContains_any (n:Nat) (w:World) (P:Nat→Prop) (l:List Sx.Tr) (a:Option Addr) (cap:Nat) (h:Sl (RG w P n) w P l (.slice a l.length cap)) (hl:l.length≤10) (hp: ∀ g ∈ l,(Sx.gP g).length≤6):
  Calls Tryz.prog 21 #[.slice a l.length cap,.func (.func 22) #[] #[]] w fun e w'=>e= .returned (.bool (l.any Kn.isMain))∧Kp [] w w':=by
 have CI:=hide (kIndex_any n w P l a cap h hl hp)
 generalize l.any Kn.isMain=M at *
 go_enter Tryz.func21,Tryz.ntmps21
 go_wp2_with fail
 refine CI.out.mono ?_
 rintro e w1 ⟨z,rfl,hz,k1⟩
 have K1:=hide k1
 clear k1
 go_wp2
 go_ret
 exact ⟨by first|rfl|(rw [←hz];rfl)|(rw [hz]),K1.out⟩
theorem Kn.stg_sg (n i a:Nat) (ab:List Sx.Tr) (out:List (List Kn.Nv)) (g:Sx.Tr) (r:List Sx.Tr):Kn.stg n i a ab out (g::r)=match Kn.sg n ab (Kn.par g) (Sx.gN g) (Sx.gB g) a (-2 - (i:Int)) with
  | .inr f=> .inr f
  | .inl s=>Kn.stg n (i+1) s.at' (ab++[g]) (out++[s.bd]) r:=by
 show (if (Kn.abv ab (Sx.gN g)).isSome || Kn.twiceP [] (Kn.par g) then Sum.inr (9,-2 - (i:Int)) else match Kn.sts n ab ⟨Kn.par g,Kn.par g,a⟩ (Sx.gB g) with
  | .inr f=> .inr f
  | .inl s=>if 30<s.bd.length then .inr (8,-2 - (i:Int)) else Kn.stg n (i+1) s.at' (ab++[g]) (out++[s.bd]) r)=_
 unfold Kn.sg
 split
 ·rfl
 ·cases Kn.sts n ab ⟨Kn.par g,Kn.par g,a⟩ (Sx.gB g) with
  |inr f=>rfl
  |inl s=>
   dsimp only
   split<;> rfl
theorem Kn.sg_new {n a:Nat} {ab:List Sx.Tr} {V:List Kn.Nv} {nm:List UInt8} {body:List Sx.Tr} {k:Int} {s:Kn.St} (h:Kn.sg n ab V nm body a k= .inl s):Kn.abv ab nm=none∧Kn.sts n ab ⟨V,V,a⟩ body= .inl s:=by
 unfold Kn.sg at h
 split at h
 ·cases h
 ·rename_i h1
  refine ⟨?_,?_⟩
  ·cases hh:Kn.abv ab nm with
   |none=>rfl
   |some y=>rw [hh] at h1;simp at h1
  ·cases hs:Kn.sts n ab ⟨V,V,a⟩ body with
   |inr f=>rw [hs] at h;cases h
   |inl s'=>
    rw [hs] at h
    dsimp only at h
    split at h
    ·cases h
    ·exact h
theorem Kn.abv_snoc (ab:List Sx.Tr) (g:Sx.Tr) (x:List UInt8):Kn.abv (ab++[g]) x=match Kn.abv ab x with
  |some y=>some y
  |none=>if Sx.gN g=x then some g else none:=by
 induction ab with
 |nil=>rfl
 |cons y r ih=>
  show (if Sx.gN y=x then some y else Kn.abv (r++[g]) x)=_
  by_cases h:Sx.gN y=x
  ·rw [if_pos h]
   show _=match (if Sx.gN y=x then some y else Kn.abv r x) with
    |some y=>some y
    |none=>if Sx.gN g=x then some g else none
   rw [if_pos h]
  ·rw [if_neg h,ih]
   show _=match (if Sx.gN y=x then some y else Kn.abv r x) with
    |some y=>some y
    |none=>if Sx.gN g=x then some g else none
   rw [if_neg h]
theorem ABv.snoc {g ma na:Nat} {fa:List UInt8→Option Value} {w:World} {P:Nat→Prop} {ab:List Sx.Tr} {nm:List UInt8} {at':Int} {ps body:List Sx.Tr} {aP aB:Option Addr} {cP cB m:Nat} (h:ABv ⟨g,0,0,ma,na,fa⟩ w P ab) (hn:Kn.abv ab nm=none) (hS:Sl RP w P ps (.slice aP ps.length cP)):
  ABv ⟨g,0,0,ma,m,upd fa nm (.agg #[.string (bs nm),.int .i64 at',.slice aP ps.length cP,.slice aB body.length cB])⟩ w P (ab++[Sx.tG nm at' ps body]):=by
 refine ⟨fun x hx=> ?_,fun x y hx=> ?_⟩
 ·rw [Kn.abv_snoc] at hx
  cases hh:Kn.abv ab x with
  |some y=>rw [hh] at hx;cases hx
  |none=>
   rw [hh] at hx
   dsimp only at hx
   split at hx
   ·cases hx
   ·rename_i hne
    show upd fa nm _ x=none
    unfold upd
    rw [if_neg (fun e=>hne e.symm)]
    exact h.no x hh
 ·rw [Kn.abv_snoc] at hx
  show ∃ nm' at2 uP aB2 nB2 cB2,upd fa nm _ x=some (.agg #[.string (bs nm'),.int .i64 at2,uP,.slice aB2 nB2 cB2])∧Sl RP w P (Sx.gP y) uP
  cases hh:Kn.abv ab x with
  |some y'=>
   rw [hh] at hx
   dsimp only at hx
   obtain rfl:=Option.some.inj hx
   have hne:x ≠ nm:=fun e=>by rw [e,hn] at hh;cases hh
   unfold upd
   rw [if_neg hne]
   exact h.yes x y' hh
  |none=>
   rw [hh] at hx
   dsimp only at hx
   split at hx
   ·rename_i he
    obtain rfl:=Option.some.inj hx
    have he':x=nm:=he.symm
    unfold upd
    rw [if_pos he']
    exact ⟨nm,at',_,_,_,_,rfl,hS⟩
   ·cases hx
structure RR (g ma:Nat) (w:World) (av:Value) (us:List Value) (out:List (List Kn.Nv)):Prop where
 ln:us.length=out.length
 at': ∀ (k:Nat) x,out[k]? =some x→ ∃ u,us[k]? =some u∧VR w u x∧u.oneCell'=true∧ ∀ b o n c,u= .slice (some ⟨b,o,none⟩) n c→g<b∧b ≠ ma∧b<w.heap.size∧av.ownBlock ≠ some b
theorem RR.keep {g ma:Nat} {w w':World} {av av':Value} {us:List Value} {out:List (List Kn.Nv)} {S:List Nat} (h:RR g ma w av us out) (hk:Kp S w w') (hS: ∀ b,b ∈ S→b<w.heap.size→b=g∨b=ma∨av.ownBlock=some b) (hv: ∀ b,av'.ownBlock=some b→av.ownBlock=some b∨w.heap.size≤b):RR g ma w' av' us out:=
 ⟨h.ln,fun k x hx=>by
  obtain ⟨u,h1,h2,h3,h4⟩:=h.at' k x hx
  refine ⟨u,h1,h2.kpb (fun b o n c j v hs hc=>hk.some hc (fun hm=> ?_)),h3,fun b o n c hs=> ?_⟩
  ·obtain ⟨n1,n2,n3,n4⟩:=h4 b o n c hs
   rcases hS b hm n3 with e|e|e
   ·rw [e] at n1;exact absurd n1 (Nat.lt_irrefl _)
   ·exact n2 e
   ·exact n4 e
  ·obtain ⟨n1,n2,n3,n4⟩:=h4 b o n c hs
   exact ⟨n1,n2,Nat.lt_of_lt_of_le n3 hk.size,fun e=>(hv b e).elim n4 (fun e=>by omega)⟩⟩
theorem RR.snoc {g ma:Nat} {w:World} {av:Value} {us:List Value} {out:List (List Kn.Nv)} {u:Value} {x:List Kn.Nv} (h:RR g ma w av us out) (hu:VR w u x) (ho:u.oneCell'=true) (hb: ∀ b o n c,u= .slice (some ⟨b,o,none⟩) n c→g<b∧b ≠ ma∧b<w.heap.size∧av.ownBlock ≠ some b):RR g ma w av (us++[u]) (out++[x]):=
 ⟨by simp [h.ln],fun k y hy=>by
  by_cases hk:k<out.length
  ·rw [List.getElem?_append_left hk] at hy
   obtain ⟨v,h1,h2⟩:=h.at' k y hy
   exact ⟨v,by rw [List.getElem?_append_left (by rw [h.ln];exact hk)];exact h1,h2⟩
  ·have hk':k<(out++[x]).length:=(List.getElem?_eq_some_iff.1 hy).1
   have:k=out.length:=by simp at hk';omega
   subst this
   rw [List.getElem?_append_right (Nat.le_refl _)] at hy
   simp at hy
   subst hy
   exact ⟨u,by rw [←h.ln,List.getElem?_append_right (Nat.le_refl _)];simp,hu,ho,hb⟩⟩
theorem Tryz.infoVars:(Tryz.prog.info? 36).map (fun i=>(i.zero,i.size,i.bytes))=some (some (.slice none 0 0),1,24):=by kernel_rfl
def VV (w:World) (v:Value) (out:List (List Kn.Nv)):Prop:=
 ∃ a c,v= .slice a out.length c∧(out ≠ []→ ∃ g o,a=some ⟨g,o,none⟩∧ ∀ (k:Nat) x,out[k]? =some x→ ∃ u,w.cell? ⟨g,o+k,none⟩=some u∧VR w u x)
def VsP (w:World) (r:Sum (List (List Kn.Nv)) (Int × Int)) (e:Ending) (w':World):Prop:=match r with
 | .inr f=>e= .returned (.tuple #[.slice none 0 0,.agg #[.int .i64 f.1,.int .i64 f.2]])∧Kp [] w w'
 | .inl o=> ∃ a c,e= .returned (.tuple #[.slice a o.length c,.agg #[.int .i64 0,.int .i64 0]])∧VV w' (.slice a o.length c) o∧Kp [] w w'
theorem vv_own {w:World} {B g ma:Nat} {v:Value} {us:List Value} {out:List (List Kn.Nv)} (h:w.ownsRow B 36 1 v out.length us) (hr:RR g ma w v us out):VV w v out:=by
 rcases h.2 with ⟨hv,h0⟩|⟨b,cap,cur,hv,_⟩
 ·refine ⟨none,0,by rw [hv,h0],fun hn=>absurd (List.length_eq_zero_iff.1 h0) hn⟩
 ·refine ⟨_,cap,hv,fun _=>⟨b,0,rfl,fun k x hx=> ?_⟩⟩
  obtain ⟨u,h1,h2,-⟩:=hr.at' k x hx
  have f1:=h.cells (g:=b) (by rw [hv];rfl) k u h1
  have ea: ∀ j:Nat,(⟨b,0,none⟩:Addr).add j=⟨b,j,none⟩:=fun j=>by unfold Addr.add;split<;> simp_all
  rw [ea] at f1
  rw [Nat.zero_add]
  exact ⟨u,f1,h2⟩
theorem vv_keep {w w':World} {B g ma r i:Nat} {v:Value} {us:List Value} {out:List (List Kn.Nv)} (h:w.ownsRow B 36 1 v i us) (hlo:out.length=i) (hr:RR g ma w v us out) (hk:Kp [r] w w') (hg:r<g) (hB:r<B):VV w' v out:=by
 subst hlo
 have h5:w'.ownsRow B 36 1 v out.length us:=own_keepv h (fun b hb=>hk.block b (h.lt b hb).2 (by have:=(h.lt b hb).1;simp;omega))
 refine vv_own (g:=g) (ma:=ma) h5 ⟨hr.ln,fun k x hx=> ?_⟩
 obtain ⟨u,h1,h2,h3,h4⟩:=hr.at' k x hx
 exact ⟨u,h1,h2.kpb (fun b o n c j v hs hc=>hk.some hc (by have:=(h4 b o n c hs).1;simp;omega)),h3,fun b o n c hs=>⟨(h4 b o n c hs).1,(h4 b o n c hs).2.1,Nat.lt_of_lt_of_le (h4 b o n c hs).2.2.1 hk.size,(h4 b o n c hs).2.2.2⟩⟩
theorem CK.keepS {g ma na:Nat} {fa:List UInt8→Option Value} {w w':World} {t:Nat} {S:List Nat} (h:CK g ma na fa w t) (k:Kp S w w') (hg:g ∉ S) (hm:ma ∉ S):CK g ma na fa w' t:=by
 obtain ⟨a,n,c,h0⟩:=h.c0
 obtain ⟨m1,h1⟩:=h.c1
 obtain ⟨m2,h2⟩:=h.c2
 exact ⟨Nat.lt_of_lt_of_le h.lt k.size,⟨a,n,c,k.some h0 hg⟩,⟨m1,k.some h1 hg⟩,⟨m2,k.some h2 hg⟩,k.some h.c3 hg,k.some h.c4 hg,fun j=>(k.frozen (p:=⟨g,j,none⟩) h.lt hg).trans (h.fz j),h.mv.of_block (k.block _ h.mv.lt hm),h.lat⟩
structure VI (g ma:Nat) (WA:World) (P:Nat→Prop) (n:Nat) (l:List Sx.Tr) (R:Sum (List (List Kn.Nv)) (Int × Int)) (i t:Nat) (fa:List UInt8→Option Value) (av:Value) (us:List Value) (out:List (List Kn.Nv)) (wr:World):Prop where
 ck:CK g ma i fa wr t
 ab:ABv ⟨g,0,0,ma,i,fa⟩ wr P (l.take i)
 ow:wr.ownsRow (g+1) 36 1 av i us
 rr:RR g ma wr av us out
 lo:out.length=i
 kp:Kp [] WA wr
 eq:R=Kn.stg n i t (l.take i) out (l.drop i)
 gf: ∃ b,Rn.gf n i t (l.drop i)= .inl b
 t3:t≤300
theorem Kn.abv_mem {ab:List Sx.Tr} {x:List UInt8} {y:Sx.Tr} (h:Kn.abv ab x=some y):y ∈ ab:=by
 induction ab with
 |nil=>cases h
 |cons g r ih=>
  have h':(if Sx.gN g=x then some g else Kn.abv r x)=some y:=h
  split at h'
  ·obtain rfl:=Option.some.inj h';exact List.mem_cons_self
  ·exact List.mem_cons_of_mem _ (ih h')
theorem told_zero {n:Nat} {l:List Sx.Tr} (h:(Rn.told n l).1=0):Rn.told n l=(0,0):=by
 have hp:=Rn.told_ok h
 unfold Rn.told at h ⊢
 rw [if_neg (by simpa using hp)] at h ⊢
 split at h
 ·cases h
 ·rename_i h1;rw [if_neg h1]
theorem gf_of_pf {n:Nat} {l:List Sx.Tr} (h:(Rn.pf n l).1=0) (hne:l ≠ []) (hl:l.length≤10): ∃ b,Rn.gf n 0 0 l= .inl b:=by
 unfold Rn.pf at h
 rw [if_neg (fun e=>hne (List.length_eq_zero_iff.1 e)),if_neg (by omega)] at h
 cases hg:Rn.gf n 0 0 l with
 |inl b=>exact ⟨b,rfl⟩
 |inr f=>rw [hg] at h;exact absurd h (Rn.gf_ne n l 0 0 f hg)
set_option maxRecDepth 100000 in
set_option maxHeartbeats 4000000 in
theorem kVars_any (n:Nat) (w:World) (P:Nat→Prop) (l:List Sx.Tr) (a:Option Addr) (cap:Nat) (hT:Tb w) (h:Sl (RG w P n) w P l (.slice a l.length cap)) (hN:Nm n l) (hPw: ∀ b,P b→b<w.heap.size) (hlB: ∀ g ∈ l,(Sx.gB g).length≤1000000):
  Calls Tryz.prog 9 #[.agg #[.slice a l.length cap]] w (VsP w (Kn.vars n l)):=by
 have HS:=hide h
 have hmm:= @run_makeMap Tryz.prog
 have KA:Hid (Kp [] w ((w.alloc (.cells #[.slice a l.length cap] 24)).alloc (.cells #[.int .i64 0,.int .i64 0] 30))):=hide (((Kp.refl _ _).alloc _).alloc _)
 have CC:=hide (rcheck_any n _ P l a cap (hT.kp KA.out) (GL.keep h KA.out) hN)
 have HV:Hid (Kn.vars n l=if (Rn.told n l).1 ≠ 0 then .inr (Rn.told n l) else match Kn.stg n 0 0 [] [] l with
  | .inr f=> .inr f
  | .inl o=>if l.any Kn.isMain then .inl o else .inr (13,-1)):=rfl
 generalize Kn.vars n l=RV at *
 clear h
 by_cases h0:(Rn.told n l).1=0
 ·have hF:Rn.told n l=(0,0):=told_zero h0
  have HV2:Hid (RV=match Kn.stg n 0 0 [] [] l with
   | .inr f=> .inr f
   | .inl o=>if l.any Kn.isMain then .inl o else .inr (13,-1)):=hide (by rw [HV.out,if_neg (by simpa using h0)])
  rw [hF] at CC
  obtain ⟨-,hne,hl10,-⟩:=Rn.pf_ok (Rn.told_ok h0)
  obtain ⟨bg,hgf⟩:=gf_of_pf (Rn.told_ok h0) hne hl10
  have HHF:Hid (∀ g ∈ l,Rn.hf g=0∧Rn.okB n (Sx.gB g)):=hide (Rn.pf_ok (Rn.told_ok h0)).2.2.2
  have HCN:=hide (fun w' (hk:Kp [] w w')=>kContains_any n w' P l a cap (GL.keep HS.out hk) hl10 (fun g hg=>(Kn.hf_ty (HHF.out g hg).1).2.1))
  have HLB:=hide hlB
  obtain ⟨i0,hi0,hz0,hz1,hz2⟩:=info_parts Tryz.infoVars
  generalize hRS:Kn.stg n 0 0 [] [] l=RS at *
  have HRS:=hide hRS
  clear hN hT h0 hF HV hlB hRS
  go_enter Tryz.func9,Tryz.ntmps9
  go_wp2_with fail
  refine CC.out.mono ?_
  rintro e w2 ⟨rfl,k2⟩
  have KB:Hid (Kp [] ((w.alloc (.cells #[.slice a l.length cap] 24)).alloc (.cells #[.int .i64 0,.int .i64 0] 30)) (((w2.alloc (.cells #[.int .i64 0,.int .i64 0] 30)).alloc (.map #[] 0)).alloc (.cells #[.slice none 0 0,.map none,.map none,.map (some (w2.heap.size+1)),.int .i64 0] 62))):=hide (((k2.alloc _).alloc _).alloc _)
  have p4:(((w2.alloc (.cells #[.int .i64 0,.int .i64 0] 30)).alloc (.map #[] 0)).alloc (.cells #[.slice none 0 0,.map none,.map none,.map (some (w2.heap.size+1)),.int .i64 0] 62)).cell? ⟨w.heap.size,0,none⟩=some (.slice a l.length cap):=KB.out.some (by simp [go_sem]) (by simp)
  have hl2:w.heap.size+2≤w2.heap.size:=by have:=k2.size;simp at this;omega
  have V0:Hid (VI (w2.heap.size+1+1) (w2.heap.size+1) ((w.alloc (.cells #[.slice a l.length cap] 24)).alloc (.cells #[.int .i64 0,.int .i64 0] 30)) P n l RS 0 0 (fun _=>none) (.slice none 0 0) [] [] (((w2.alloc (.cells #[.int .i64 0,.int .i64 0] 30)).alloc (.map #[] 0)).alloc (.cells #[.slice none 0 0,.map none,.map none,.map (some (w2.heap.size+1)),.int .i64 0] 62))):=hide (by
   have hm:=MV.made (w2.alloc (.cells #[.int .i64 0,.int .i64 0] 30))
   rw [show (w2.alloc (.cells #[.int .i64 0,.int .i64 0] 30)).heap.size=w2.heap.size+1 from by simp] at hm
   refine ⟨⟨by simp,⟨none,0,0,by simp [go_sem]⟩,⟨none,by simp [go_sem]⟩,⟨none,by simp [go_sem]⟩,by simp [go_sem],by simp [go_sem],fun j=>by simp [go_sem],hm.of_block (Below.heap_alloc _ _ _ (by simp)),by decide⟩,⟨fun _ _=>rfl,fun x y hx=>by rw [List.take_zero] at hx;cases hx⟩,⟨rfl,.inl ⟨rfl,rfl⟩⟩,⟨rfl,fun k x hx=>by cases hx⟩,rfl,KB.out,by rw [List.take_zero];exact HRS.out.symm,⟨bg,hgf⟩,by decide⟩)
  clear k2 hgf
  generalize hWA:((w.alloc (.cells #[.slice a l.length cap] 24)).alloc (.cells #[.int .i64 0,.int .i64 0] 30))=WA at *
  have HA0:Hid (WA.cell? ⟨w.heap.size,0,none⟩=some (.slice a l.length cap)∧WA.cell? ⟨w.heap.size+1,0,none⟩=some (.int .i64 0)∧WA.cell? ⟨w.heap.size+1,1,none⟩=some (.int .i64 0)∧WA.frozen? ⟨w.heap.size+1,0,none⟩=false∧WA.frozen? ⟨w.heap.size+1,1,none⟩=false∧WA.heap.size=w.heap.size+2):=hide (by subst hWA;exact ⟨by simp [go_sem],by simp [go_sem],by simp [go_sem],by simp [go_sem],by simp [go_sem],by simp⟩)
  clear hWA KB
  go_wp2
  go_loopw [6,21] (fun tv iv wr=> ∃ (i t:Nat) (fa:List UInt8→Option Value) (us:List Value) (out:List (List Kn.Nv)),i≤l.length∧iv= .int .i64 i∧Hid (VI (w2.heap.size+1+1) (w2.heap.size+1) WA P n l RS i t fa tv us out wr)) (fun _ iv _=>l.length - (intOf iv).toNat)
  case atStart=>exact ⟨0,0,_,_,_,Nat.zero_le _,rfl,V0⟩
  case round=>
   obtain ⟨i,t,fa,us,out,hil,rfl,HI⟩:=hrel
   have K0:=hide (KA.out.trans HI.out.kp)
   by_cases hlt:i<l.length
   ·have d1:decide ((i:Int)<(l.length:Int))=true:=by simp;omega
    obtain ⟨b,off,nm,at',ps,body,uP,uB,rfl,hPb,hd,m0,m1,m2,m3,hP,hB⟩:=GL.nth (GL.keep HS.out K0.out) i hlt
    obtain ⟨aP,cP,rfl,-⟩:=id hP
    obtain ⟨aB,cB,rfl⟩:=hB.slice
    have hdr:l.drop i=Sx.tG nm at' ps body::l.drop (i+1):=drop_nth hd
    obtain ⟨bq,hgf⟩:=HI.out.gf
    rw [hdr] at hgf
    obtain ⟨hf1,hf2,hf3,hf4⟩:=Kn.gf_cons hgf
    change Rn.okB n body at hf2
    change Rn.gf n (i+1) (t+Kn.cs n body) _=_ at hf3
    change t≤300→t+Kn.cs n body≤300 at hf4
    have ht3:=HI.out.t3
    have hcs:=hf4 ht3
    obtain ⟨ty1,ty2,ty3⟩:=Kn.hf_ty hf1
    change nm.length≤12 at ty1
    change ps.length≤6 at ty2
    change Kn.Tyv (ps.map fun p=>((Sx.pH p).1,(Sx.pH p).2)) at ty3
    have hbl:body.length≤1000000:=HLB.out _ (List.mem_of_getElem? hd)
    have HP:=hide hP
    have HB:=hide hB
    have hgp: ∀ x y,Kn.abv (l.take i) x=some y→(Sx.gP y).length≤1000000:=fun x y hxy=>by
     have:=(Kn.hf_ty (HHF.out y (List.mem_of_mem_take (Kn.abv_mem hxy))).1).2.1
     omega
    have hfw:ps.length+2 * Kn.cs n body≤1000:=by omega
    have hft:t+Kn.cs n body≤100000:=by omega
    have hPg: ∀ b,P b→b<w2.heap.size+1+1∧b<w2.heap.size+1:=fun b hb=>by have:=hPw b hb;omega
    have hi10:i≤1000:=by omega
    have CS:=hide (fun W (hk:Kp [] wr W)=>kStage_any (w2.heap.size+1+1) (w2.heap.size+1) i fa W P n (l.take i) nm at' (-2 - (i:Int)) ps body aP aB cP cB t (HI.out.ck.kp hk) hi10 (HP.out.keep hk (by simp) (fun d c h=>h)) (HB.out.keep hk (by simp)) hf2 hbl ty1 (by omega) ty3 (HI.out.ab.keep hk (by simp)) hgp hPg hfw hft)
    have HEQ:Hid (RS=match Kn.sg n (l.take i) (ps.map fun p=>((Sx.pH p).1,(Sx.pH p).2)) nm body t (-2 - (i:Int)) with
     | .inr f=> .inr f
     | .inl s=>Kn.stg n (i+1) s.at' (l.take i++[Sx.tG nm at' ps body]) (out++[s.bd]) (l.drop (i+1))):=hide (by rw [HI.out.eq,hdr,Kn.stg_sg];rfl)
    have HTK:Hid (l.take (i+1)=l.take i++[Sx.tG nm at' ps body]):=hide (by rw [List.take_add_one,hd];rfl)
    have HNW:Hid (∀ s,Kn.sg n (l.take i) (ps.map fun p=>((Sx.pH p).1,(Sx.pH p).2)) nm body t (-2 - (i:Int))= .inl s→Kn.abv (l.take i) nm=none∧s.at'=t+Kn.cs n body):=hide (fun s hs=>⟨(Kn.sg_new hs).1,(Kn.sts_go n _ _ body s (Kn.sg_new hs).2).at'⟩)
    have HF3:=hide hf3
    have hk0:(0:Int)≤(i:Int):=by omega
    have hk1:(i:Int)<(l.length:Int):=by omega
    have hwr:wrap64 (-2 - (i:Int))= -2 - (i:Int):=by simp only [wrap64];omega
    generalize Kn.sg n (l.take i) (ps.map fun p=>((Sx.pH p).1,(Sx.pH p).2)) nm body t (-2 - (i:Int))=SG at *
    clear hP hB hd hdr hgf hf1 hf2 hf3 hf4 ty1 ty3 hgp hfw hft
    go_wp2_with fail
    refine (CS.out _ ((Kp.refl _ _).alloc _)).mono ?_
    intro e w5 hp
    cases SG with
    |inr f=>
     obtain ⟨rfl,hf0,k5⟩:=hp
     obtain ⟨x1,x2,x3,x4,x5,x6⟩:=HA0.out
     have K5:Hid (Kp [] w w5):=hide (Kp.new (Kp.new (((K0.out.alloc _).mono (by simp)).trans k5) (by omega)) (by omega))
     have KW:Hid (Kp [] WA w5):=hide (Kp.new (Kp.new (((HI.out.kp.alloc _).mono (by simp)).trans k5) (by omega)) (by omega))
     have r0:=KW.out.some x2 (by simp)
     have r1:=KW.out.some x3 (by simp)
     have g0:=(KW.out.frozen (p:=⟨w.heap.size+1,0,none⟩) (by show w.heap.size+1<_;omega) (by simp)).trans x4
     have g1:=(KW.out.frozen (p:=⟨w.heap.size+1,1,none⟩) (by show w.heap.size+1<_;omega) (by simp)).trans x5
     have hl5:=World.block_lt_of_cell? _ _ r0
     have qf:(f.1 !=0)=true:=by simpa using hf0
     have HRf:Hid (RV= .inr f):=hide (by rw [HV2.out,HEQ.out])
     clear k5 x1 x2 x3 x4 x5 x6 HEQ HNW HV2 HF3
     go_wp2
     go_region
     all_goals
      go_wp2
      refine bodyPost_ret (v:= .tuple #[.slice none 0 0,.agg #[.int .i64 f.1,.int .i64 f.2]]) (by simp [results,Tryz.results9,go_sem,r0,r1,hl5]) rfl ?_
      show VsP w RV _ _
      rw [HRf.out]
      exact ⟨rfl,(((K5.out.nb (by omega) _ _).nb (by omega) _ _).alloc _).drewN 1⟩
    |inl s=>
     obtain ⟨rfl,k5,hck,vv,hv0,hvr,hvb⟩:=hp
     obtain ⟨hnn,hat'⟩:=HNW.out s rfl
     obtain ⟨av,cv,hvv,-⟩:=id hvr
     subst hvv
     have kA:=(Kp.refl [] wr).alloc (.cells #[.string (bs nm),.int .i64 at',.slice aP ps.length cP,.slice aB body.length cB] 43)
     have HO5:Hid (w5.ownsRow (w2.heap.size+1+1+1) 36 1 u6 i us):=hide (own_keepv (own_keepv HI.out.ow (fun b hb=>kA.block b (HI.out.ow.lt b hb).2 (by simp))) (fun b hb=>k5.block b (Nat.lt_of_lt_of_le (HI.out.ow.lt b hb).2 kA.size) (by have:=(HI.out.ow.lt b hb).1;simp;omega)))
     have R5:Hid (RR (w2.heap.size+1+1) (w2.heap.size+1) w5 u6 us out):=hide ((HI.out.rr.keep kA (by simp) (fun b e=> .inl e)).keep k5 (fun b hb _=>by simp at hb;rcases hb with h|h;exact .inl h;exact .inr (.inl h)) (fun b e=> .inl e))
     have hu6: ∀ b,u6.ownBlock=some b→b<wr.heap.size:=fun b e=>(HI.out.ow.lt b e).2
     have R6:Hid (RR (w2.heap.size+1+1) (w2.heap.size+1) w5 u6 (us++[.slice av s.bd.length cv]) (out++[s.bd])):=hide (R5.out.snoc hvr rfl (fun b o n c e=>by
      obtain ⟨⟨n1,n2⟩,n3⟩:=hvb b o n c e
      have hgw:=HI.out.ck.lt
      have n31:=n3.1
      simp at n31
      exact ⟨by omega,n2,n3.2,fun e'=>by have:=hu6 b e';omega⟩))
     have hdis: ∀ k,k ∈ [w2.heap.size+1+1,w2.heap.size+1]→ ¬ P k:=fun k hk hp=>by have:=hPg k hp;simp at hk;omega
     have AB6:Hid (ABv ⟨w2.heap.size+1+1,0,0,w2.heap.size+1,i+1,upd fa nm (.agg #[.string (bs nm),.int .i64 at',.slice aP ps.length cP,.slice aB body.length cB])⟩ w5 P (l.take (i+1))):=hide (by rw [HTK.out];exact ABv.snoc ((HI.out.ab.keep kA (by simp)).keep k5 hdis) hnn ((HP.out.keep kA (by simp) (fun d c h=>h)).keep k5 hdis (fun d c h=>h)))
     have CK6:=hide hck
     obtain ⟨x1,x2,x3,x4,x5,x6⟩:=HA0.out
     have KW:Hid (Kp [] WA w5):=hide (Kp.new (Kp.new (((HI.out.kp.alloc _).mono (by simp)).trans k5) (by omega)) (by omega))
     have HS5:Hid (w2.heap.size+1+1+1≤w5.heap.size):=hide (by have:=hck.lt;omega)
     have v07:(w5.alloc (.cells #[.int .i64 0,.int .i64 0] 30)).cell? ⟨w2.heap.size+1+1,0,none⟩=some (.slice av s.bd.length cv):=((Kp.refl [] _).alloc _).some hv0 (by simp)
     have HEQ2:Hid (RS=Kn.stg n (i+1) s.at' (l.take (i+1)) (out++[s.bd]) (l.drop (i+1))):=hide (by rw [HEQ.out,HTK.out])
     have HGF:Hid (∃ b,Rn.gf n (i+1) s.at' (l.drop (i+1))= .inl b):=hide ⟨bq,by rw [hat'];exact HF3.out⟩
     have HT3:Hid (s.at'≤300):=hide (by rw [hat'];exact hcs)
     have hlo:=HI.out.lo
     clear hck hvr hvb hnn k5 kA hdis HEQ HNW HF3 x1 x2 x3 x4 x5
     go_wp2_with (at_builtin;refine wpList_append_lies _ rfl _ _ 28 rfl (w2.heap.size+1+1+1) 36 i0 (.slice none 0 0) 1 24 Tryz.underlying28 hi0 hz0 hz1 hz2 rfl (by decide) _ _ _ rfl (by exact (HO5.out.alloc _).alloc _) ⟨w5.heap.size+1,0,none⟩ 1 1 [.slice av s.bd.length cv] rfl rfl (by have:=tnew (w5.alloc (.cells #[.int .i64 0,.int .i64 0] 30)) (.slice av s.bd.length cv) 36;simpa using this) (by intro u hu;simp at hu;subst hu;rfl) (by decide) (by unfold maxLen;omega) (by omega) (by have:=HS5.out;simp;omega) _ rfl ?_;intro gg cap2 w7 hown hgrow hat hlt7)
     have M7:Hid (VI (w2.heap.size+1+1) (w2.heap.size+1) WA P n l RS (i+1) s.at' (upd fa nm (.agg #[.string (bs nm),.int .i64 at',.slice aP ps.length cP,.slice aB body.length cB])) (.slice (some ⟨gg,0,none⟩) (i+1) cap2) (us++[.slice av s.bd.length cv]) (out++[s.bd]) w7):=hide (by
      have kb:Kp [] w5 ((w5.alloc (.cells #[.int .i64 0,.int .i64 0] 30)).alloc (.cells #[.slice av s.bd.length cv] 36)):=((Kp.refl _ _).alloc _).alloc _
      have hgrow':((w5.alloc (.cells #[.int .i64 0,.int .i64 0] 30)).alloc (.cells #[.slice av s.bd.length cv] 36)).grownBy w7 u6.ownBlock:=hgrow
      have kg:Kp u6.ownBlock.toList ((w5.alloc (.cells #[.int .i64 0,.int .i64 0] 30)).alloc (.cells #[.slice av s.bd.length cv] 36)) w7:=(Kp.refl _ _).grown hgrow' (fun k hk=> .inr (by rw [hk];simp))
      have hlo6: ∀ b,u6.ownBlock=some b→w2.heap.size+1+1+1≤b:=fun b e=>(HO5.out.lt b e).1
      exact ⟨(CK6.out.kp kb).keepS kg (fun hm=>by simp at hm;have:=hlo6 _ hm;omega) (fun hm=>by simp at hm;have:=hlo6 _ hm;omega),(AB6.out.keep kb (by simp)).keep kg (fun k hk hp=>by simp at hk;have:=hlo6 _ hk;have:=hPg k hp;omega),hown,(R6.out.keep kb (by simp) (fun b e=> .inl e)).keep kg (fun b hb _=>by simp at hb;exact .inr (.inr hb)) (fun b e=>by cases e;exact hat.imp id (fun e=>by rw [e];simp)),by simp [hlo],((KW.out.trans kb).grown hgrow (fun k hk=> .inl (by have:=hlo6 k hk;omega))),HEQ2.out,HGF.out,HT3.out⟩)
     clear hown hgrow hat
     go_wp2
     go_roundw
     case rel=>exact ⟨i+1,_,_,_,_,by omega,by go_num,M7⟩
     case measure=>simp [intOf];omega
   ·obtain rfl:i=l.length:=by omega
    have d1:decide ((l.length:Int)<(l.length:Int))=false:=by simp
    obtain ⟨x1,x2,x3,x4,x5,x6⟩:=HA0.out
    have p0:=HI.out.kp.some x1 (by simp)
    have r0:=HI.out.kp.some x2 (by simp)
    have r1:=HI.out.kp.some x3 (by simp)
    have g0:=(HI.out.kp.frozen (p:=⟨w.heap.size+1,0,none⟩) (by show w.heap.size+1<_;omega) (by simp)).trans x4
    have g1:=(HI.out.kp.frozen (p:=⟨w.heap.size+1,1,none⟩) (by show w.heap.size+1<_;omega) (by simp)).trans x5
    have hRS:RS= .inl out:=by have:=HI.out.eq;rw [List.drop_length] at this;exact this
    have HRV:Hid (RV=if l.any Kn.isMain then .inl out else .inr (13,-1)):=hide (by rw [HV2.out,hRS])
    have hlo:=HI.out.lo
    have HVV:Hid (VV wr u6 out):=hide (vv_own (by rw [hlo];exact HI.out.ow) HI.out.rr)
    have CT:=hide (HCN.out wr K0.out)
    obtain ⟨av,cv,hu6,-⟩:=HVV.out
    subst hu6
    clear x1 x2 x3 x4 x5 x6 hRS HV2 hlo
    generalize l.any Kn.isMain=M at *
    cases M with
    |true=>
     have HRf:Hid (RV= .inl out):=hide HRV.out
     clear HRV
     go_wp2_with fail
     refine CT.out.mono ?_
     rintro e w5 ⟨rfl,k5⟩
     have r05:=k5.some r0 (by simp)
     have r15:=k5.some r1 (by simp)
     have g05:=(k5.frozen (p:=⟨w.heap.size+1,0,none⟩) (World.block_lt_of_cell? _ _ r0) (by simp)).trans g0
     have g15:=(k5.frozen (p:=⟨w.heap.size+1,1,none⟩) (World.block_lt_of_cell? _ _ r1) (by simp)).trans g1
     have K5:=hide (K0.out.trans k5)
     have HK5:=hide k5
     have hlr:=World.block_lt_of_cell? _ _ r0
     clear k5
     go_wp2
     refine bodyPost_ret (v:= .tuple #[.slice av out.length cv,.agg #[.int .i64 0,.int .i64 0]]) (by simp [results,Tryz.results9,go_sem,r05,r15]) rfl ?_
     show VsP w RV _ _
     rw [HRf.out]
     refine ⟨av,cv,rfl,?_,(K5.out.nb (by omega) _ _).nb (by omega) _ _⟩
     have kr:Kp [w.heap.size+1] wr ((w5.setCell ⟨w.heap.size+1,0,none⟩ (.int .i64 0)).setCell ⟨w.heap.size+1,1,none⟩ (.int .i64 0)):=(((HK5.out.mono (by simp)).rb 0 _).rb 1 _)
     exact vv_keep HI.out.ow HI.out.lo HI.out.rr kr (by omega) (by omega)
    |false=>
     have HRf:Hid (RV= .inr (13,-1)):=hide HRV.out
     clear HRV
     go_wp2_with fail
     refine CT.out.mono ?_
     rintro e w5 ⟨rfl,k5⟩
     have r05:=k5.some r0 (by simp)
     have r15:=k5.some r1 (by simp)
     have g05:=(k5.frozen (p:=⟨w.heap.size+1,0,none⟩) (World.block_lt_of_cell? _ _ r0) (by simp)).trans g0
     have g15:=(k5.frozen (p:=⟨w.heap.size+1,1,none⟩) (World.block_lt_of_cell? _ _ r1) (by simp)).trans g1
     have K5:=hide (K0.out.trans k5)
     clear k5
     go_wp2
     refine bodyPost_ret (v:= .tuple #[.slice none 0 0,.agg #[.int .i64 13,.int .i64 (-1)]]) (by simp [results,Tryz.results9,go_sem,r05,r15]) rfl ?_
     show VsP w RV _ _
     rw [HRf.out]
     exact ⟨rfl,(K5.out.nb (by omega) _ _).nb (by omega) _ _⟩
 ·rw [if_pos h0] at HV
  generalize Rn.told n l=F at *
  have qf:(F.1 !=0)=true:=by simpa using h0
  clear hN hT
  go_enter Tryz.func9,Tryz.ntmps9
  go_wp2_with fail
  refine CC.out.mono ?_
  rintro e w2 ⟨rfl,k2⟩
  have K2:=hide (KA.out.trans k2)
  have r0:w2.cell? ⟨w.heap.size+1,0,none⟩=some (.int .i64 0):=k2.some (by simp [go_sem]) (by simp)
  have r1:w2.cell? ⟨w.heap.size+1,1,none⟩=some (.int .i64 0):=k2.some (by simp [go_sem]) (by simp)
  have g0:w2.frozen? ⟨w.heap.size+1,0,none⟩=false:=(k2.frozen (p:=⟨w.heap.size+1,0,none⟩) (by simp) (by simp)).trans (by simp [go_sem])
  have g1:w2.frozen? ⟨w.heap.size+1,1,none⟩=false:=(k2.frozen (p:=⟨w.heap.size+1,1,none⟩) (by simp) (by simp)).trans (by simp [go_sem])
  have hl2:=World.block_lt_of_cell? _ _ r0
  clear k2
  go_wp2
  go_region
  all_goals
   go_wp2
   refine bodyPost_ret (v:= .tuple #[.slice none 0 0,.agg #[.int .i64 F.1,.int .i64 F.2]]) (by simp [results,Tryz.results9,go_sem,r0,r1,hl2]) rfl ?_
   show VsP w RV _ _
   rw [HV.out]
   exact ⟨rfl,(((K2.out.nb (by omega) _ _).nb (by omega) _ _).alloc _).drewN 1⟩
end Go.Proofs.YthcapfojofahkaaGreatDoor
