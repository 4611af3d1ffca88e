import Derived.Test.YtagblibbngmbdaaGreatDoorMaa
import Derived.Test.YtagblibbngmbdaaGreatDoorMbq
import Derived.Test.YtagblibbngmbdaaGreatDoorMac
namespace Go.Proofs.YtagblibbngmbdaaGreatDoor.Sx
open Go.Proofs.YtagblibbngmbdaaGreatDoor.Tk
def Dry' {α:Type} (r:Rs α):Prop:= ∃ p q,r= .inr (99,p,q)
theorem zaf {α β:Type} {m:Rs α} {k:α→St→List Tok→Rs β} (h:Dry' (bnd m k)):Dry' m∨ ∃ x s r,m= .inl (x,s,r)∧Dry' (k x s r):=by
 rcases m with ⟨x,s,r⟩|⟨c,p,q⟩
 ·exact .inr ⟨x,s,r,rfl,h⟩
 ·obtain ⟨p',q',he⟩:=h
  simp only [bnd,Sum.inr.injEq,Prod.mk.injEq] at he
  exact .inl ⟨p,q,by rw [he.1]⟩
theorem zad {α:Type} {x:α × St × List Tok}: ¬ Dry' (.inl x:Rs α):=by rintro ⟨p,q,h⟩;cases h
theorem za5 {α:Type} {code:Int} (hc:code ≠ 99) (e:Nat) (ts:List Tok): ¬ Dry' (bad code e ts:Rs α):=by
 rintro ⟨p,q,h⟩
 simp only [bad,Sum.inr.injEq,Prod.mk.injEq] at h
 exact hc h.1
theorem zbb {α:Type} (e:Nat) (ts:List Tok): ¬ Dry' (unfit e ts:Rs α):=by
 unfold unfit
 refine za5 ?_ e ts
 cases ts<;> simp [ucode]
theorem zar (e:Nat) (x:List UInt8) (s:St) (ts:List Tok): ¬ Dry' (skp e x s ts):=by
 unfold skp
 split
 ·exact zad
 ·exact zbb _ _
theorem zcn (e:Nat) (k:Int) (s:St) (ts:List Tok): ¬ Dry' (tokOf e k s ts):=by
 cases ts with
 |nil=>exact zbb _ _
 |cons t r=>
  simp only [tokOf]
  split
  ·exact zad
  ·exact zbb _ _
theorem zax (e:Nat) (s:St) (ts:List Tok): ¬ Dry' (nameOf e s ts):=by
 intro h
 rcases zaf h with h|⟨_,_,_,_,h⟩
 ·exact zcn _ _ _ _ h
 ·exact zad h
theorem zdi (e:Nat) (s:St) (ts:List Tok): ¬ Dry' (numOf e s ts):=by
 intro h
 rcases zaf h with h|⟨_,_,_,_,h⟩
 ·exact zcn _ _ _ _ h
 ·exact zad h
theorem zdj (e:Nat) (s:St) (ts:List Tok): ¬ Dry' (ent e s ts):=by
 unfold ent
 split
 ·exact za5 (by decide) _ _
 ·exact zad
theorem zco {op:Int} {x:Tr} {m:Rs Tr} (h:Dry' (join op x m)):Dry' m:=by
 rcases zaf h with h|⟨_,_,_,_,h⟩
 ·exact h
 ·exact absurd h zad
def need (g:Nat):Nat:=if g=0 then 4 else if g=1 then 3 else if g=2 then 2 else if g=4 then 1 else if g=5 then 1 else 1
theorem zbs (e f g:Nat) (x z:Tr) (s s':St) (ts r:List Tok) (hg:g<4) (h:pe e f g x s ts= .inl (z,s',r)):r.length<ts.length:=by
 induction f generalizing g x z s s' ts r with
 |zero=>cases h
 |succ f ih=>
  rcases zed g with rfl|rfl|rfl|rfl|rfl|hg'
  ·rw [pe_0] at h
   obtain ⟨z1,s3,r3,h1,h2⟩:=bnd_ok h
   obtain ⟨y,s1,r1,h3,h4⟩:=bnd_ok h1
   have k1:=ih _ _ _ _ _ _ _ (by omega) h3
   have k2:r3.length≤r1.length:=by
    split at h4
    ·obtain ⟨y2,s2,h5,_,_⟩:=join_ok h4
     have:=(pe_keeps _ _ _ _ _ _ _ _ _ h5).len
     simp at this
     omega
    ·split at h4
     ·obtain ⟨y2,s2,h5,_,_⟩:=join_ok h4
      have:=(pe_keeps _ _ _ _ _ _ _ _ _ h5).len
      simp at this
      omega
     ·obtain ⟨_,_,rfl⟩:=inl_ok h4
      exact Nat.le_refl _
   split at h2
   ·cases h2
   ·obtain ⟨_,_,rfl⟩:=inl_ok h2
    omega
  ·rw [pe_1] at h
   obtain ⟨y,s1,r1,h3,h4⟩:=bnd_ok h
   have k1:=ih _ _ _ _ _ _ _ (by omega) h3
   have k2:=(pe_keeps _ _ _ _ _ _ _ _ _ h4).len
   omega
  ·rw [pe_2] at h
   obtain ⟨y,s1,r1,h3,h4⟩:=bnd_ok h
   have k1:=ih _ _ _ _ _ _ _ (by omega) h3
   have k2:=(pe_keeps _ _ _ _ _ _ _ _ _ h4).len
   omega
  ·omega
  ·omega
  ·rw [pe_u _ _ _ _ _ _ hg'] at h
   split at h
   ·rename_i ht
    obtain ⟨_,s1,r1,h1,h2⟩:=bnd_ok h
    obtain ⟨y,s2,r2,h3,h4⟩:=bnd_ok h2
    obtain ⟨_,s3,r3,h5,h6⟩:=bnd_ok h4
    obtain ⟨_,_,rfl⟩:=ent_ok h1
    have k:=(pe_keeps _ _ _ _ _ _ _ _ _ h3).len
    have k2:=(skp_keeps h5).len
    have l1:=txt_len ht
    obtain ⟨_,_,rfl⟩:=inl_ok h6
    omega
   ·split at h
    ·rename_i ht
     obtain ⟨_,s1,r1,h1,h2⟩:=bnd_ok h
     obtain ⟨y,s2,r2,h3,h4⟩:=bnd_ok h2
     obtain ⟨_,_,rfl⟩:=ent_ok h1
     have k:=(pe_keeps _ _ _ _ _ _ _ _ _ h3).len
     have l1:=txt_len ht
     obtain ⟨_,_,rfl⟩:=inl_ok h4
     omega
    ·split at h
     ·obtain ⟨y,s1,r1,h3,h4⟩:=bnd_ok h
      obtain ⟨t,rfl,_,_,_⟩:=numOf_ok h3
      obtain ⟨_,_,rfl⟩:=inl_ok h4
      simp
     ·obtain ⟨y,s1,r1,h3,h4⟩:=bnd_ok h
      obtain ⟨t,rfl,_,_,_⟩:=nameOf_ok h3
      obtain ⟨_,_,rfl⟩:=inl_ok h4
      simp
theorem zhx (e f g:Nat) (x:Tr) (s:St) (ts:List Tok) (hf:5 * ts.length+need g≤f): ¬ Dry' (pe e f g x s ts):=by
 induction f generalizing g x s ts with
 |zero=>
  unfold need at hf
  repeat' split at hf
  all_goals omega
 |succ f ih=>
  intro h
  rcases zed g with rfl|rfl|rfl|rfl|rfl|hg
  ·have n1:need 1=3:=rfl
   have n0:need 0=4:=rfl
   rw [pe_0] at h
   rcases zaf h with h|⟨z,s3,r3,h1,h2⟩
   ·rcases zaf h with h|⟨y,s1,r1,h3,h4⟩
    ·exact ih 1 _ _ _ (by omega) h
    ·have k1:=zbs _ _ _ _ _ _ _ _ _ (by omega) h3
     split at h4
     ·exact ih 1 _ _ _ (by simp;omega) (zco h4)
     ·split at h4
      ·exact ih 1 _ _ _ (by simp;omega) (zco h4)
      ·exact zad h4
   ·split at h2
    ·obtain ⟨p,q,he⟩:=h2
     simp at he
    ·exact zad h2
  ·have n1:need 1=3:=rfl
   have n2:need 2=2:=rfl
   have n4:need 4=1:=rfl
   rw [pe_1] at h
   rcases zaf h with h|⟨y,s1,r1,h3,h4⟩
   ·exact ih 2 _ _ _ (by omega) h
   ·have k1:=zbs _ _ _ _ _ _ _ _ _ (by omega) h3
    exact ih 4 _ _ _ (by omega) h4
  ·have n2:need 2=2:=rfl
   have n3:need 3=1:=rfl
   have n5:need 5=1:=rfl
   rw [pe_2] at h
   rcases zaf h with h|⟨y,s1,r1,h3,h4⟩
   ·exact ih 3 _ _ _ (by omega) h
   ·have k1:=zbs _ _ _ _ _ _ _ _ _ (by omega) h3
    exact ih 5 _ _ _ (by omega) h4
  ·have n2:need 2=2:=rfl
   have n4:need 4=1:=rfl
   rw [pe_4] at h
   split at h
   ·rename_i ht
    have l1:=txt_len ht
    rcases zaf h with h|⟨y,s1,r1,h3,h4⟩
    ·exact ih 2 _ _ _ (by omega) (zco h)
    ·obtain ⟨y2,s2,h5,_,_⟩:=join_ok h3
     have k1:=zbs _ _ _ _ _ _ _ _ _ (by omega) h5
     exact ih 4 _ _ _ (by omega) h4
   ·split at h
    ·rename_i ht
     have l1:=txt_len ht
     rcases zaf h with h|⟨y,s1,r1,h3,h4⟩
     ·exact ih 2 _ _ _ (by omega) (zco h)
     ·obtain ⟨y2,s2,h5,_,_⟩:=join_ok h3
      have k1:=zbs _ _ _ _ _ _ _ _ _ (by omega) h5
      exact ih 4 _ _ _ (by omega) h4
    ·exact zad h
  ·have n3:need 3=1:=rfl
   have n5:need 5=1:=rfl
   rw [pe_5] at h
   split at h
   ·rename_i ht
    have l1:=txt_len ht
    rcases zaf h with h|⟨y,s1,r1,h3,h4⟩
    ·exact ih 3 _ _ _ (by omega) (zco h)
    ·obtain ⟨y2,s2,h5,_,_⟩:=join_ok h3
     have k1:=zbs _ _ _ _ _ _ _ _ _ (by omega) h5
     exact ih 5 _ _ _ (by omega) h4
   ·exact zad h
  ·have n3:need 3=1:=rfl
   have n0:need 0=4:=rfl
   have ng:need g=1:=by
    unfold need
    rcases hg with rfl|hg
    ·rfl
    ·rw [if_neg (by omega),if_neg (by omega),if_neg (by omega),if_neg (by omega),if_neg (by omega)]
   rw [pe_u _ _ _ _ _ _ hg] at h
   split at h
   ·rename_i ht
    have l1:=txt_len ht
    rcases zaf h with h|⟨_,s1,r1,h1,h⟩
    ·exact zdj _ _ _ h
    ·obtain ⟨_,_,rfl⟩:=ent_ok h1
     rcases zaf h with h|⟨y,s2,r2,h3,h⟩
     ·exact ih 0 _ _ _ (by omega) h
     ·rcases zaf h with h|⟨_,s3,r3,h5,h⟩
      ·exact zar _ _ _ _ h
      ·exact zad h
   ·split at h
    ·rename_i ht
     have l1:=txt_len ht
     rcases zaf h with h|⟨_,s1,r1,h1,h⟩
     ·exact zdj _ _ _ h
     ·obtain ⟨_,_,rfl⟩:=ent_ok h1
      rcases zaf h with h|⟨y,s2,r2,h3,h⟩
      ·exact ih 3 _ _ _ (by omega) h
      ·exact zad h
    ·split at h
     ·rcases zaf h with h|⟨y,s1,r1,h3,h⟩
      ·exact zdi _ _ _ h
      ·exact zad h
     ·rcases zaf h with h|⟨y,s1,r1,h3,h⟩
      ·exact zax _ _ _ h
      ·exact zad h
end Go.Proofs.YtagblibbngmbdaaGreatDoor.Sx
namespace Go.Proofs.YtagblibbngmbdaaGreatDoor.Sx
open Go.Proofs.YtagblibbngmbdaaGreatDoor.Tk
theorem zmp (e:Nat) (acc:List UInt8) (s:St) (ts:List Tok): ¬ Dry' (ty e acc s ts):=by
 induction ts generalizing acc with
 |nil=>exact zbb _ _
 |cons t r ih=>
  simp only [ty]
  split
  ·split
   ·exact za5 (by decide) _ _
   ·exact ih _
  ·intro h
   rcases zaf h with h|⟨_,_,_,_,h⟩
   ·exact zar _ _ _ _ h
   ·exact zad h
theorem zl8 (e:Nat) {σ:Type} (one:σ→St→List Tok→Rs σ) (L:Nat) (hone: ∀ acc s ts,ts.length≤L→ ¬ Dry' (one acc s ts)) (hk: ∀ acc s ts acc' s' r,one acc s ts= .inl (acc',s',r)→r.length≤ts.length)
  (k m:Nat) (acc:σ) (s:St) (ts:List Tok) (hm:m≤6) (hkm:7≤k+m) (hL:ts.length≤L): ¬ Dry' (brkL e one k m acc s ts):=by
 induction k generalizing m acc s ts with
 |zero=>omega
 |succ k ih=>
  simp only [brkL]
  split
  ·split
   ·exact za5 (by decide) _ _
   ·intro h
    rcases zaf h with h|⟨a,s1,r1,h1,h⟩
    ·exact hone _ _ _ (by simp;omega) h
    ·have:=hk _ _ _ _ _ _ h1
     simp at this
     exact ih _ _ _ _ (by omega) (by omega) (by omega) h
  ·exact zad
theorem zk2 (e:Nat) {σ:Type} (one:σ→St→List Tok→Rs σ) (L:Nat) (hone: ∀ acc s ts,ts.length≤L→ ¬ Dry' (one acc s ts)) (hk: ∀ acc s ts acc' s' r,one acc s ts= .inl (acc',s',r)→r.length≤ts.length)
  (acc:σ) (s:St) (ts:List Tok) (hL:ts.length≤L): ¬ Dry' (brk e one acc s ts):=by
 intro h
 rcases zaf h with h|⟨_,s1,r1,h1,h⟩
 ·exact zar _ _ _ _ h
 ·have k1:=(skp_keeps h1).len
  rcases zaf h with h|⟨_,s2,r2,h2,h⟩
  ·split at h
   ·exact zad h
   ·rcases zaf h with h|⟨a,s3,r3,h3,h⟩
    ·exact hone _ _ _ (by omega) h
    ·have:=hk _ _ _ _ _ _ h3
     exact zl8 e one L hone hk 7 1 _ _ _ (by omega) (by omega) (by omega) h
  ·rcases zaf h with h|⟨_,s3,r3,h3,h⟩
   ·exact zar _ _ _ _ h
   ·exact zad h
theorem zi9 (e:Nat) (acc:List Tr) (s:St) (ts:List Tok): ¬ Dry' (parOne e acc s ts):=by
 intro h
 rcases zaf h with h|⟨_,_,_,_,h⟩
 ·exact zax _ _ _ h
 ·rcases zaf h with h|⟨_,_,_,_,h⟩
  ·exact zmp _ _ _ _ h
  ·exact zad h
theorem zja (e f:Nat) (acc:List Tr) (s:St) (ts:List Tok) (hf:5 * ts.length+4≤f): ¬ Dry' (argOne e f acc s ts):=by
 intro h
 rcases zaf h with h|⟨_,_,_,_,h⟩
 ·exact zhx e f 0 _ _ _ hf h
 ·exact zad h
theorem zec (e f d:Nat) (A:List UInt8) (s:St) (ts:List Tok) (hf:5 * ts.length+4≤f): ¬ Dry' (plainB e f d A s ts):=by
 unfold plainB
 split
 ·intro h
  rcases zaf h with h|⟨_,s1,r1,h1,h⟩
  ·exact zar _ _ _ _ h
  ·have k:=(skp_keeps h1).len
   rcases zaf h with h|⟨_,_,_,_,h⟩
   ·exact zhx e f 0 _ _ _ (by show 5 * _+4≤f;omega) h
   ·exact zad h
 ·split
  ·intro h
   rcases zaf h with h|⟨_,_,_,_,h⟩
   ·exact zhx e f 0 _ _ _ hf h
   ·exact zad h
  ·split
   ·intro h
    rcases zaf h with h|⟨_,_,_,_,h⟩
    ·exact zax _ _ _ h
    ·rcases zaf h with h|⟨_,_,_,_,h⟩
     ·exact zmp _ _ _ _ h
     ·rcases zaf h with h|⟨_,_,_,_,h⟩
      ·exact zdi _ _ _ h
      ·exact zad h
   ·split
    ·intro h
     rcases zaf h with h|⟨_,_,_,_,h⟩
     ·exact zax _ _ _ h
     ·exact zad h
    ·split
     ·intro h
      rcases zaf h with h|⟨_,_,_,_,h⟩
      ·exact zk2 e _ ts.length (fun acc s r hr=>zja e f acc s r (by omega)) (fun acc s r acc' s' r' h=>(argOne_keeps e f acc s r acc' s' r' h).len) _ _ _ (Nat.le_refl _) h
      ·exact zad h
     ·exact zad
theorem zk3 (e f d:Nat) (s:St) (ts:List Tok) (hf:5 * ts.length+4≤f): ¬ Dry' (plain e f d s ts):=by
 unfold plain
 split
 ·exact zec _ _ _ _ _ _ hf
 ·intro h
  rcases zaf h with h|⟨_,s1,r1,h1,h⟩
  ·exact zax _ _ _ h
  ·have k:=(za3 h1).len
   exact zec _ _ _ _ _ _ (by omega) h
theorem zk4 (e f d:Nat) (s:St) (ts:List Tok) (hf:5 * ts.length+4≤f): ¬ Dry' (nestA e f d s ts):=by
 unfold nestA
 split
 ·intro h
  rcases zaf h with h|⟨_,_,_,_,h⟩
  ·exact zax _ _ _ h
  ·rcases zaf h with h|⟨_,_,_,_,h⟩
   ·exact zar _ _ _ _ h
   ·rcases zaf h with h|⟨_,_,_,_,h⟩
    ·exact zax _ _ _ h
    ·exact zad h
 ·intro h
  rcases zaf h with h|⟨_,_,_,_,h⟩
  ·exact zhx e f 0 _ _ _ hf h
  ·exact zad h
theorem zga {ts:List Tok} (h:doOf (txt ts) ≠ 0):ts.tail.length+1=ts.length:=by
 cases ts with
 |nil=>exact absurd rfl h
 |cons a b=>rfl
theorem zk5 (e f:Nat) (acc l:List Tr) (s s':St) (ts r:List Tok) (h:ps e f 1 acc s ts= .inl (l,s',r)):r.length<ts.length:=by
 cases f with
 |zero=>cases h
 |succ f=>
  rw [ps_1] at h
  split at h
  ·cases h
  ·rename_i h0
   have hl:=zga h0
   split at h
   ·cases h
   ·split at h
    ·obtain ⟨x,s1,r1,h1,h2⟩:=bnd_ok h
     obtain ⟨u3,s3,r3,h5,h6⟩:=bnd_ok h2
     obtain ⟨_,_,rfl⟩:=inl_ok h6
     have k:=((plain_keeps _ _ _ _ _ _ _ _ h1).trans (skp_keeps h5)).len
     omega
    ·obtain ⟨x,s1,r1,h1,h2⟩:=bnd_ok h
     obtain ⟨body,s2,r2,h3,h4⟩:=bnd_ok h2
     obtain ⟨els,s3,r3,h5,h6⟩:=bnd_ok h4
     obtain ⟨_,_,rfl⟩:=inl_ok h6
     have k1:=(nestA_keeps _ _ _ _ _ _ _ _ h1).len
     have k2:=(ps_keeps _ _ _ _ _ _ _ _ _ h3).kp.len
     have k3:r3.length≤r2.length:=by
      split at h5
      ·obtain ⟨u7,s7,r7,h7,h8⟩:=bnd_ok h5
       exact ((skp_keeps h7).trans (ps_keeps _ _ _ _ _ _ _ _ _ h8).kp).len
      ·obtain ⟨_,_,rfl⟩:=inl_ok h5
       exact Nat.le_refl _
     omega
def needS (g:Nat):Nat:=if g=0 then 1 else if g=1 then 1 else 2
theorem zo0 (e f g:Nat) (acc:List Tr) (s:St) (ts:List Tok) (hf:6 * ts.length+needS g≤f): ¬ Dry' (ps e f g acc s ts):=by
 induction f generalizing g acc s ts with
 |zero=>
  unfold needS at hf
  repeat' split at hf
  all_goals omega
 |succ f ih=>
  have n0:needS 0=1:=rfl
  have n1:needS 1=1:=rfl
  have n2:needS 2=2:=rfl
  intro h
  rcases (by omega:g=0∨g=1∨2≤g) with rfl|rfl|hg
  ·rw [ps_0] at h
   split at h
   ·exact za5 (by decide) _ _ h
   ·rcases zaf h with h|⟨_,s1,r1,h1,h⟩
    ·exact zar _ _ _ _ h
    ·obtain ⟨ht,_,rfl⟩:=skp_ok h1
     have l1:=txt_len ht
     rcases zaf h with h|⟨_,s2,r2,h2,h⟩
     ·exact ih 2 _ _ _ (by omega) h
     ·rcases zaf h with h|⟨_,_,_,_,h⟩
      ·exact zar _ _ _ _ h
      ·exact zad h
  ·rw [ps_1] at h
   split at h
   ·exact zbb _ _ h
   ·rename_i h0
    have l1:=zga h0
    split at h
    ·exact za5 (by decide) _ _ h
    ·split at h
     ·rcases zaf h with h|⟨_,s1,r1,h1,h⟩
      ·exact zk3 _ _ _ _ _ (by omega) h
      ·rcases zaf h with h|⟨_,_,_,_,h⟩
       ·exact zar _ _ _ _ h
       ·exact zad h
     ·rcases zaf h with h|⟨_,s1,r1,h1,h⟩
      ·exact zk4 _ _ _ _ _ (by omega) h
      ·have k1:=(nestA_keeps _ _ _ _ _ _ _ _ h1).len
       rcases zaf h with h|⟨_,s2,r2,h2,h⟩
       ·exact ih 0 _ _ _ (by omega) h
       ·have k2:=(ps_keeps _ _ _ _ _ _ _ _ _ h2).kp.len
        rcases zaf h with h|⟨_,_,_,_,h⟩
        ·split at h
         ·rcases zaf h with h|⟨_,s3,r3,h3,h⟩
          ·exact zar _ _ _ _ h
          ·have k3:=(skp_keeps h3).len
           exact ih 0 _ _ _ (by omega) h
         ·exact zad h
        ·exact zad h
  ·have ng:needS g=2:=by
    unfold needS
    rw [if_neg (by omega),if_neg (by omega)]
   rw [ps_2 _ _ _ _ _ _ hg] at h
   split at h
   ·exact zad h
   ·rcases zaf h with h|⟨l,s1,r1,h1,h⟩
    ·exact ih 1 _ _ _ (by omega) h
    ·have k:=zk5 _ _ _ _ _ _ _ _ h1
     exact ih 2 _ _ _ (by omega) h
theorem zgb (e f:Nat) (s:St) (ts:List Tok) (hf:6 * ts.length+1≤f): ¬ Dry' (stage e f s ts):=by
 intro h
 rcases zaf h with h|⟨_,s1,r1,h1,h⟩
 ·exact zar _ _ _ _ h
 ·have k1:=(skp_keeps h1).len
  rcases zaf h with h|⟨_,s2,r2,h2,h⟩
  ·exact zax _ _ _ h
  ·have k2:=(za3 h2).len
   rcases zaf h with h|⟨_,s3,r3,h3,h⟩
   ·exact zk2 e _ r2.length (fun acc s r _=>zi9 e acc s r) (fun acc s r acc' s' r' h=>(parOne_keeps e acc s r acc' s' r' h).len) _ _ _ (Nat.le_refl _) h
   ·have k3:=(zc4 e _ (fun acc s ts acc' s' r=>parOne_keeps e acc s ts acc' s' r) _ _ _ _ _ _ h3).len
    rcases zaf h with h|⟨_,_,_,_,h⟩
    ·exact zo0 e f 0 _ _ _ (by show 6 * _+1≤f;omega) h
    ·exact zad h
theorem zjb (e f k:Nat) (acc:List Tr) (s:St) (ts:List Tok) (hf:6 * ts.length+1≤f) (hk:ts.length<k): ¬ Dry' (stages e f k acc s ts):=by
 induction k generalizing acc s ts with
 |zero=>omega
 |succ k ih=>
  simp only [stages]
  split
  ·exact zad
  ·split
   ·exact za5 (by decide) _ _
   ·intro h
    rcases zaf h with h|⟨x,s1,r1,h1,h⟩
    ·exact zgb _ _ _ _ hf h
    ·have:=(stage_keeps _ _ _ _ _ _ _ h1).2
     exact ih _ _ _ (by omega) (by omega) h
theorem prog_wet (e f k:Nat) (ts:List Tok) (hf:6 * ts.length+1≤f) (hk:ts.length<k): ¬ Dry' (prog e f k ts):=by
 intro h
 rcases zaf h with h|⟨x,s1,r1,h1,h⟩
 ·exact zgb _ _ _ _ hf h
 ·have:=(stage_keeps _ _ _ _ _ _ _ h1).2
  exact zjb _ _ _ _ _ _ (by omega) (by omega) h
end Go.Proofs.YtagblibbngmbdaaGreatDoor.Sx
namespace Go.Proofs.YtagblibbngmbdaaGreatDoor.Sx
open Go.Proofs.YtagblibbngmbdaaGreatDoor.Tk
end Go.Proofs.YtagblibbngmbdaaGreatDoor.Sx
set_option maxRecDepth 100000
set_option maxHeartbeats 2000000
namespace Go.Proofs.YtagblibbngmbdaaGreatDoor
open Go.RowKit
def Sx.parse (f q:Nat) (l:List UInt8):Sx.Rs (List Sx.Tr):=
 if (Tk.scan l).2.1 ≠ 0 then .inr ((Tk.scan l).2.1,(Tk.scan l).2.2,[]) else Sx.prog l.length f q (Tk.scan l).1
theorem zo1 (l:List UInt8) (a:Nat) (ts:List Tk.Tok) (h:Tk.Cov l a ts): ∀ (i:Nat) t,ts[i]? =some t→t.at'≤l.length:=by
 induction ts generalizing a with
 |nil=>intro i t hi;simp at hi
 |cons x r ih=>
  intro i t hi
  obtain ⟨_,h2,h3,_,h5⟩:=h
  cases i with
  |zero=>simp at hi;subst hi;omega
  |succ i=>exact ih _ h5 i t (by simpa using hi)
theorem zl9 {w:World} {B:Nat} {v:Value} {ts:List Tk.Tok} {e:Nat} (h:w.ownsRow B 103 4 v ts.length (zbd ts)) (hl:ts.length≤12000) (he:e≤12000) (hat: ∀ (i:Nat) t,ts[i]? =some t→t.at'≤12000) (hv: ∃ a n cap,v= .slice a n cap):
  ∃ c:Cx,c.rb=w.heap.size∧c.full=ts∧c.e=e∧v= .slice c.a c.full.length c.cap∧RD c (w.alloc (.cells #[v,.int .i64 0,.int .i64 e,.int .i64 0,.int .i64 0,.int .i64 0,.int .i64 0] 81)) 0 Sx.s0:=by
 have hex: ∃ a cap tb,v= .slice a ts.length cap∧(ts ≠ []→a=some ⟨tb,0,none⟩∧tb<w.heap.size)∧ ∀ (i:Nat) t,ts[i]? =some t→w.cell? ⟨tb,i * 4,none⟩=some (.int .i64 t.kind)∧w.cell? ⟨tb,i * 4+1,none⟩=some (.int .i64 (t.at':Int))∧
  w.cell? ⟨tb,i * 4+2,none⟩=some (.string (bs t.text))∧w.cell? ⟨tb,i * 4+3,none⟩=some (.int .i64 t.n):=by
  rcases h.2 with ⟨hv,hn⟩|⟨g,cap,cur,hv,hB,hg,_⟩
  ·have hts:ts=[]:=by cases ts with
    |nil=>rfl
    |cons a r=>simp at hn
   subst hts
   exact ⟨none,0,0,hv,fun h=>absurd rfl h,fun i t hi=>by simp at hi⟩
  ·refine ⟨_,cap,g,hv,fun _=>⟨rfl,?_⟩,fun i t hi=> ?_⟩
   ·rcases Nat.lt_or_ge g w.heap.size with h'|h'
    ·exact h'
    ·rw [Array.getElem?_eq_none h'] at hg;cases hg
   ·obtain ⟨t0,t1,t2,t3⟩:=zj1 ts i t hi
    have hc:=h.cells (g:=g) (by rw [hv];rfl)
    have c0:=hc _ _ t0
    have c1:=hc _ _ t1
    have c2:=hc _ _ t2
    have c3:=hc _ _ t3
    rw [Addr.add_mid,Nat.zero_add] at c0 c1 c2 c3
    exact ⟨c0,c1,c2,c3⟩
 obtain ⟨a,cap,tb,rfl,hne,htk⟩:=hex
 refine ⟨⟨w.heap.size,tb,cap,a,ts,e⟩,rfl,rfl,rfl,rfl,?_⟩
 have k:Kp [] w (w.alloc (.cells #[.slice a ts.length cap,.int .i64 0,.int .i64 e,.int .i64 0,.int .i64 0,.int .i64 0,.int .i64 0] 81)):=(Kp.refl _ _).alloc _
 exact { hn:=Nat.zero_le _,hm:=hl,he:=he,rlt:=by simp,c0:=by simp [go_sem],c1:=by simp [go_sem],c2:=by simp [go_sem],c3:=by simp [go_sem,Sx.s0],c4:=by simp [go_sem,Sx.s0],c5:=by simp [go_sem,Sx.s0],c6:=by simp [go_sem,Sx.s0],b3:=by simp [Sx.s0],b4:=by simp [Sx.s0],b5:=by simp [Sx.s0],b6:=by simp only [Sx.s0];omega,fz:=fun o=>by simp [go_sem],ne:=fun h=>⟨(hne h).1,by have:=(hne h).2;simp only;omega⟩,tk:=fun i t hi=>match htk i t hi with|⟨c0,c1,c2,c3⟩=>⟨k.some c0 (by simp),k.some c1 (by simp),k.some c2 (by simp),k.some c3 (by simp),hat i t hi⟩ }
theorem zma (f q:Nat) (hB:CB f) (s:ByteArray) (w:World) (hw:WTab w) (hs:s.size≤12000) (hf: ¬ Dry (Sx.parse f q s.data.toList)):
  Calls Tryz.prog 16 #[.string s] w (Told w [] (Sx.parse f q s.data.toList)):=by
 have hzn:=Lib.size_eq s
 have HSC:=hide (zmu s ((w.alloc (.cells #[.slice none 0 0] 24)).alloc (.cells #[.int .i64 0,.int .i64 0] 30)) (hw.below (((Below.refl _ _).alloc (Nat.le_refl _) _).alloc (by simp) _)) hs)
 have HR:Hid (RV ((w.alloc (.cells #[.slice none 0 0] 24)).alloc (.cells #[.int .i64 0,.int .i64 0] 30)) w.heap.size (w.heap.size+1) (.slice none 0 0) 0 0):=by
  refine ⟨(X1.new w _ _).keep ((Kp.refl [] _).alloc _) (by simp),?_,?_,fun o=> ?_⟩<;> simp [go_sem]
 have hcov:(Tk.scan s.data.toList).2.1=0→ ∀ (i:Nat) t,(Tk.scan s.data.toList).1[i]? =some t→t.at'≤12000:=fun h i t hi=>by
  have:=zo1 _ _ _ (Tk.cov_scan s.data.toList (by omega) h) i t hi
  omega
 have hcnt:=Tk.scan_count s.data.toList
 by_cases hc:(Tk.scan s.data.toList).2.1=0
 ·have hE:Sx.parse f q s.data.toList=Sx.prog s.data.toList.length f q (Tk.scan s.data.toList).1:=by
   unfold Sx.parse
   rw [if_neg (by simpa using hc)]
  have hcv:=hcov hc
  rw [hE] at hf ⊢
  unfold scanV at HSC
  rw [hc] at HSC
  clear hE hcov hw
  generalize (Tk.scan s.data.toList).1=ts at *
  generalize (Tk.scan s.data.toList).2.2=pp at *
  have HB:=hide hB
  have HF:=hide hf
  have HCV:=hide hcv
  have HN:=hide hzn
  clear hf hcv hB hzn hc
  go_enter Tryz.func16,Tryz.ntmps16
  go_wp2_with fail
  refine HSC.out.mono ?_
  rintro e w1 ⟨v,rfl,hown,hb1⟩
  have hvs: ∃ a n cap,v= .slice a n cap:=by
   rcases hown.2 with ⟨hv,_⟩|⟨g,cap,cur,hv,_⟩
   ·exact ⟨_,_,_,hv⟩
   ·exact ⟨_,_,_,hv⟩
  obtain ⟨c,hrb,hfu,he,hv,hrd⟩:=zl9 (e:=s.size) (hown.alloc (.cells #[.int .i64 0,.int .i64 pp] 30)) (by have h1:=HN.out;omega) hs HCV.out hvs
  have hrb':c.rb=w1.heap.size+1:=by rw [hrb];simp
  have hm0:Sx.prog s.data.toList.length f q ts=Sx.bnd (Sx.stage c.e f Sx.s0 (c.full.drop 0)) fun x s r=>Sx.stages c.e f q [x] s r:=by
   rw [hfu,he,HN.out,List.drop_zero]
   rfl
  have HRD:=hide (zl7 f q HB.out c _ 0 Sx.s0 hrd _ hm0 HF.out)
  have K1:Hid (Kp [] w w1):=(((Kp.refl _ _).alloc _).alloc _).trans (Kp.of_below hb1)
  have HR1:=hide (HR.out.keep (Kp.of_below (S:=[]) hb1) (by simp) (by simp))
  have hz1:=hb1.size
  simp at hz1
  obtain ⟨av,nv,cv,hav⟩:=hvs
  rw [hav] at HRD hv
  rw [hav]
  rw [hrb'] at HRD
  have hlen:nv=ts.length:=by
   rw [hfu] at hv
   simp only [Value.slice.injEq] at hv
   exact hv.2.1
  clear hown hb1 hrb hm0 hrd hv hav
  generalize Sx.prog s.data.toList.length f q ts=m0 at *
  clear hlen hcnt HCV HF HN hfu he
  have hq1:w.heap.size<w1.heap.size:=by omega
  have hq2:w.heap.size+1<w1.heap.size:=by omega
  go_wp2_with fail
  refine HRD.out.mono ?_
  intro e w2 hp
  rcases m0 with ⟨l,s2,r2⟩|⟨code,p,rest⟩
  ·obtain ⟨m,a,cap,rfl,hSl,hk⟩:=hp
   have k2:Kp [w1.heap.size+1] w1 w2:=(((Kp.refl _ _).alloc _).alloc _).trans hk
   have hR2:=HR1.out.keep k2 (by simp;omega) (by simp;omega)
   have HR2:=hide hR2
   obtain ⟨⟨o0,oz⟩,f0,f1,fz⟩:=hR2
   have HSl:=hide hSl
   have HK2:=hide k2
   clear hSl hk k2
   go_wp2
   have hRe:=RV.set HR2.out (by omega) (.slice a l.length cap) 0 0
   have ks:Kp [w.heap.size+1,w.heap.size] w2 (((w2.setCell ⟨w.heap.size,0,none⟩ (.slice a l.length cap)).setCell ⟨w.heap.size+1,0,none⟩ (.int .i64 0)).setCell ⟨w.heap.size+1,1,none⟩ (.int .i64 0)):=Kp.rb (Kp.rb ((Kp.refl _ _).setCell (p:=⟨w.heap.size,0,none⟩) (by simp) _) _ _) _ _
   obtain ⟨⟨p0,_⟩,g0,g1,_⟩:=hRe
   refine bodyPost_ret (v:= .tuple #[.agg #[.slice a l.length cap],.agg #[.int .i64 0,.int .i64 0]]) (by simp [results,Tryz.results16,go_sem,p0,g0,g1]) rfl ⟨m,a,cap,rfl,?_,?_⟩
   ·refine Sl.base (HSl.out.keep ks (fun k hk=>by simp at hk ⊢;omega) (fun d cc hd=>hd.keep ks (fun k hk=>by simp at hk ⊢;omega))) (fun b _ hb=>by simp at hb;omega) (fun d cc hd=>⟨hd.base (fun b _ hb=>by simp at hb;omega),?_⟩)
    obtain ⟨_,_,_,_,_,_,_,rfl,_⟩:=hd
    simp
   ·refine Kp.new (b:=w.heap.size) (Kp.new (b:=w.heap.size+1) (Kp.new (b:=w1.heap.size+1) (((K1.out.mono (by simp)).trans (HK2.out.mono (by simp))).trans (ks.mono (by simp))) (by omega)) (Nat.le_succ _)) (Nat.le_refl _)
  ·obtain ⟨rfl,hk⟩:=hp
   have k2:Kp [w1.heap.size+1] w1 w2:=(((Kp.refl _ _).alloc _).alloc _).trans hk
   have hR2:=HR1.out.keep k2 (by simp;omega) (by simp;omega)
   have HR2:=hide hR2
   obtain ⟨⟨o0,oz⟩,f0,f1,fz⟩:=hR2
   have HK2:=hide k2
   clear hk k2
   go_wp2
   have hRe:=RV.set HR2.out (by omega) (.slice none 0 0) code p
   have ks:Kp [w.heap.size+1,w.heap.size] w2 (((w2.setCell ⟨w.heap.size,0,none⟩ (.slice none 0 0)).setCell ⟨w.heap.size+1,0,none⟩ (.int .i64 code)).setCell ⟨w.heap.size+1,1,none⟩ (.int .i64 p)):=Kp.rb (Kp.rb ((Kp.refl _ _).setCell (p:=⟨w.heap.size,0,none⟩) (by simp) _) _ _) _ _
   obtain ⟨⟨p0,_⟩,g0,g1,_⟩:=hRe
   refine bodyPost_ret (v:= .tuple #[.agg #[.slice none 0 0],.agg #[.int .i64 code,.int .i64 p]]) (by simp [results,Tryz.results16,go_sem,p0,g0,g1]) rfl ⟨rfl,?_⟩
   exact Kp.new (b:=w.heap.size) (Kp.new (b:=w.heap.size+1) (Kp.new (b:=w1.heap.size+1) (((K1.out.mono (by simp)).trans (HK2.out.mono (by simp))).trans (ks.mono (by simp))) (by omega)) (Nat.le_succ _)) (Nat.le_refl _)
 ·have hE:Sx.parse f q s.data.toList= .inr ((Tk.scan s.data.toList).2.1,(Tk.scan s.data.toList).2.2,[]):=by
   unfold Sx.parse
   rw [if_pos (by simpa using hc)]
  have hnone:=Tk.scan_none s.data.toList (by omega) hc
  rw [hE]
  unfold scanV at HSC
  rw [hnone] at HSC
  have dc:((Tk.scan s.data.toList).2.1 == 0)=false:=by simpa using hc
  clear hE hcov hw hnone hcnt hf hB hzn hc
  generalize (Tk.scan s.data.toList).2.1=code at *
  generalize (Tk.scan s.data.toList).2.2=pp at *
  go_enter Tryz.func16,Tryz.ntmps16
  go_wp2_with fail
  refine HSC.out.mono ?_
  rintro e w1 ⟨v,rfl,hown,hb1⟩
  have hv:v= .slice none 0 0∨ ∃ g cap,v= .slice (some ⟨g,0,none⟩) 0 cap:=by
   rcases hown.2 with ⟨hv,_⟩|⟨g,cap,cur,hv,_⟩
   ·exact .inl hv
   ·exact .inr ⟨g,cap,hv⟩
  have K1:Hid (Kp [] w w1):=(((Kp.refl _ _).alloc _).alloc _).trans (Kp.of_below hb1)
  have HR1:=hide (HR.out.keep (Kp.of_below (S:=[]) hb1) (by simp) (by simp))
  have hz1:=hb1.size
  simp at hz1
  obtain ⟨⟨o0,oz⟩,f0,f1,fz⟩:=HR1.out
  have hq1:w.heap.size<w1.heap.size:=by omega
  have hq2:w.heap.size+1<w1.heap.size:=by omega
  have hex: ∃ a n cap,v= .slice a n cap:=by
   rcases hv with rfl|⟨g,cap,rfl⟩
   ·exact ⟨_,_,_,rfl⟩
   ·exact ⟨_,_,_,rfl⟩
  obtain ⟨av,nv,cv,hav⟩:=hex
  rw [hav]
  clear hown hb1 hv hav
  go_wp2
  go_region
  all_goals go_wp2
  have hRe:=(RV.set HR1.out (by omega) (.slice none 0 0) code pp).keep (S:=[]) (((Kp.refl _ _).alloc (.cells #[.int .i64 code,.int .i64 pp] 30)).drew) (by simp) (by simp)
  have ks:Kp [w.heap.size+1,w.heap.size] w1 (((w1.setCell ⟨w.heap.size,0,none⟩ (.slice none 0 0)).setCell ⟨w.heap.size+1,0,none⟩ (.int .i64 code)).setCell ⟨w.heap.size+1,1,none⟩ (.int .i64 pp)):=Kp.rb (Kp.rb ((Kp.refl _ _).setCell (p:=⟨w.heap.size,0,none⟩) (by simp) _) _ _) _ _
  obtain ⟨⟨p0,_⟩,g0,g1,_⟩:=hRe
  refine bodyPost_ret (v:= .tuple #[.agg #[.slice none 0 0],.agg #[.int .i64 code,.int .i64 pp]]) (by simp [results,Tryz.results16,go_sem,p0,g0,g1]) rfl ⟨rfl,?_⟩
  exact Kp.new (b:=w.heap.size) (Kp.new (b:=w.heap.size+1) (((K1.out.mono (by simp)).trans ks).alloc _).drew (Nat.le_succ _)) (Nat.le_refl _)
end Go.Proofs.YtagblibbngmbdaaGreatDoor
namespace Go.Proofs.YtagblibbngmbdaaGreatDoor
open Go.RowKit
def Sx.parsed (l:List UInt8):Sx.Rs (List Sx.Tr):=Sx.parse 72001 12001 l
theorem Tk.tok_code (l:List UInt8):(Tk.tok l).code≤4:=by
 unfold Tk.tok
 split
 ·split
  ·unfold Tk.numAns
   split<;> simp
  ·unfold Tk.nameAns
   repeat' split
   all_goals simp
 ·unfold Tk.signAns
  split
  ·simp
  ·simp
  ·split<;> simp
theorem Tk.tl_code (f p:Nat) (l:List UInt8):(Tk.tl f p l).2.1≤4:=by
 induction f generalizing p l with
 |zero=>simp [Tk.tl]
 |succ f ih=>
  cases l with
  |nil=>simp [Tk.tl]
  |cons b t=>
   simp only [Tk.tl]
   split
   ·exact Tk.tok_code _
   ·split
    ·exact ih _ _
    ·exact ih _ _
theorem Tk.scan_code (l:List UInt8):(Tk.scan l).2.1 ≠ 99:=by
 unfold Tk.scan
 split
 ·simp
 ·have:=Tk.tl_code (l.length+1) (Tk.skip false l) (l.drop (Tk.skip false l))
  omega
theorem znz {α:Type} (r:Sx.Rs α) (h: ¬ Sx.Dry' r): ¬ Dry r:=h
theorem zjc (l:List UInt8) (hl:l.length≤12000): ¬ Dry (Sx.parsed l):=by
 unfold Sx.parsed Sx.parse
 by_cases hc:(Tk.scan l).2.1=0
 ·rw [if_neg (by simpa using hc)]
  have h1:=Tk.scan_count l
  exact znz _ (Sx.prog_wet _ _ _ _ (by omega) (by omega))
 ·rw [if_pos (by simpa using hc)]
  rintro ⟨p,q,h⟩
  simp only [Sum.inr.injEq,Prod.mk.injEq] at h
  exact Tk.scan_code l h.1
theorem zk6 (h10: ∀ f,CP 10 f) (s:ByteArray) (w:World) (hw:WTab w) (hs:s.size≤12000):
  Calls Tryz.prog 16 #[.string s] w (Told w [] (Sx.parsed s.data.toList)):=
 zma 72001 12001 (zoh h10 72001).1 s w hw hs (zjc _ (by have:=Lib.size_eq s;omega))
end Go.Proofs.YtagblibbngmbdaaGreatDoor
