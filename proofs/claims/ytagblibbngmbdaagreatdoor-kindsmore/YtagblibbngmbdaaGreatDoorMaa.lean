import Derived.Lib.Strings
import GoSem.ClaimWide
namespace Go.Proofs.YtagblibbngmbdaaGreatDoor.Tk
def isL (b:UInt8):Bool:=decide (97≤b.toNat) && decide (b.toNat≤122)
def isD (b:UInt8):Bool:=decide (48≤b.toNat) && decide (b.toNat≤57)
def isB (b:UInt8):Bool:=b.toNat == 32 || b.toNat == 9 || b.toNat == 10 || b.toNat == 13
def run:List UInt8→Nat
 |[]=>0
 |b::t=>if isL b || isD b then run t+1 else 0
def skip:Bool→List UInt8→Nat
 |_,[]=>0
 |r,b::t=>if b.toNat=10 then skip false t+1 else if b.toNat=35 then skip true t+1 else if !r && !isB b then 0 else skip r t+1
theorem run_le (l:List UInt8):run l≤l.length:=by
 induction l with
 |nil=>simp [run]
 |cons b t ih=>simp only [run];split<;> simp<;> omega
theorem skip_le (l:List UInt8) (r:Bool):skip r l≤l.length:=by
 induction l generalizing r with
 |nil=>simp [skip]
 |cons b t ih=>
  simp only [skip]
  have h1:=ih false
  have h2:=ih true
  have h3:=ih r
  repeat' split
  all_goals simp<;> omega
def val:Int→List UInt8→Option Int
 |n,[]=>some n
 |n,b::t=>if isD b then val (n * 10+((b.toNat:Int) - 48)) t else none
def numOf (l:List UInt8):Option Int:=
 if 18<l.length∨(1<l.length∧l.head? =some 48) then none else val 0 l
def words:List (List UInt8):=[[97,98,97,110,100,111,110],[99,104,97,110],[99,108,111,110,101],[99,108,111,115,101],[100,114,97,105,110],[101,108,115,101],[101,109,105,116],[102,111,114],[102,114,111,109],[105,102],[105,110,116],[108,101,116],[114,101,99,118],[114,101,112,101,97,116],[115,101,110,100],[115,101,116],[115,112,97,119,110],[115,116,97,103,101],[116,97,107,101]]
def isW (l:List UInt8):Bool:=words.contains l
def signs:List UInt8:=[40,41,123,125,44,59,43,45,42,60,61]
structure Tok where
 kind:Int
 at':Nat
 text:List UInt8
 n:Int
structure Ans where
 code:Int
 kind:Int
 len:Nat
 n:Int
def numAns (l:List UInt8):Ans:=match numOf l with
 |none=>⟨3,0,0,0⟩
 |some n=>⟨0,3,l.length,n⟩
def nameAns (l:List UInt8):Ans:=if isW l then ⟨0,1,l.length,0⟩ else if 12<l.length then ⟨4,0,0,0⟩ else ⟨0,2,l.length,0⟩
def signAns:List UInt8→Ans
 |[]=>⟨2,0,0,0⟩
 |61::61::_=>⟨0,4,2,0⟩
 |b::_=>if signs.contains b then ⟨0,4,1,0⟩ else ⟨2,0,0,0⟩
def tok (l:List UInt8):Ans:=
 if 0<run l then (if isD (l.headD 0) then numAns (l.take (run l)) else nameAns (l.take (run l))) else signAns l
def tl:Nat→Nat→List UInt8→List Tok × Int × Int
 |0,_,_=>([],0,0)
 |_+1,_,[]=>([],0,0)
 |f+1,p,b::t=>
  let a:=tok (b::t)
  if a.code ≠ 0 then ([],a.code,(p:Int)) else
   let j:=a.len+skip false ((b::t).drop a.len)
   let r:=tl f (p+j) ((b::t).drop j)
   if r.2.1 ≠ 0 then ([],r.2) else (⟨a.kind,p,(b::t).take a.len,a.n⟩::r.1,r.2)
def scan (l:List UInt8):List Tok × Int × Int:=
 if 12000<l.length then ([],1,12000) else tl (l.length+1) (skip false l) (l.drop (skip false l))
theorem numAns_len (l:List UInt8):(numAns l).code=0→(numAns l).len=l.length:=by
 unfold numAns
 split<;> simp
theorem nameAns_len (l:List UInt8):(nameAns l).code=0→(nameAns l).len=l.length:=by
 unfold nameAns
 repeat' split
 all_goals simp
theorem zgl (l:List UInt8):(signAns l).code=0→0<(signAns l).len∧(signAns l).len≤l.length:=by
 unfold signAns
 split
 ·simp
 ·simp
 ·split<;> simp
theorem tok_len (l:List UInt8) (h:(tok l).code=0):0<(tok l).len∧(tok l).len≤l.length:=by
 have h1:=run_le l
 unfold tok at h ⊢
 split at h
 ·rename_i hr
  rw [if_pos hr]
  split at h
  ·rename_i hd
   rw [if_pos hd,numAns_len _ h]
   simp;omega
  ·rename_i hd
   rw [if_neg hd,nameAns_len _ h]
   simp;omega
 ·rename_i hr
  rw [if_neg hr]
  exact zgl l h
theorem zjq (l:List UInt8) (p:Nat) (f:Nat) (hl:l ≠ []) (hc:(tok l).code=0):tl (f+1) p l=(let j:=(tok l).len+skip false (l.drop (tok l).len)
   let r:=tl f (p+j) (l.drop j)
   if r.2.1 ≠ 0 then ([],r.2) else (⟨(tok l).kind,p,l.take (tok l).len,(tok l).n⟩::r.1,r.2)):=by
 cases l with
 |nil=>exact absurd rfl hl
 |cons b t=>simp only [tl];rw [if_neg (by simpa using hc)]
theorem tok_bad (l:List UInt8) (p:Nat) (f:Nat) (hl:l ≠ []) (hc:(tok l).code ≠ 0):tl (f+1) p l=([],(tok l).code,(p:Int)):=by
 cases l with
 |nil=>exact absurd rfl hl
 |cons b t=>simp only [tl];rw [if_pos hc]
theorem tl_nil (f p:Nat):tl f p []=([],0,0):=by cases f<;> rfl
def comb (a:List Tok) (r:List Tok × Int × Int):List Tok × Int × Int:=if r.2.1 ≠ 0 then ([],r.2) else (a++r.1,r.2)
theorem tl_nofault (f p:Nat) (l:List UInt8):(tl f p l).2.1 ≠ 0→(tl f p l).1=[]:=by
 induction f generalizing p l with
 |zero=>simp [tl]
 |succ f ih=>
  cases l with
  |nil=>simp [tl]
  |cons b t=>
   simp only [tl]
   split
   ·simp
   ·split
    ·simp
    ·rename_i h;intro h2;exact absurd h2 h
theorem comb_nil (r:List Tok × Int × Int) (h:r.2.1 ≠ 0→r.1=[]):comb [] r=r:=by
 unfold comb
 split
 ·rename_i h1;rw [←h h1]
 ·simp
theorem comb_step (acc:List Tok) (l:List UInt8) (p f:Nat) (hl:l ≠ []) (hc:(tok l).code=0):
  comb acc (tl (f+1) p l)=comb (acc++[⟨(tok l).kind,p,l.take (tok l).len,(tok l).n⟩]) (tl f (p+((tok l).len+skip false (l.drop (tok l).len))) (l.drop ((tok l).len+skip false (l.drop (tok l).len)))):=by
 rw [zjq l p f hl hc]
 dsimp only
 generalize tl f (p+((tok l).len+skip false (l.drop (tok l).len))) (l.drop ((tok l).len+skip false (l.drop (tok l).len)))=r
 by_cases h:r.2.1=0
 ·simp [comb,h]
 ·simp [comb,h]
end Go.Proofs.YtagblibbngmbdaaGreatDoor.Tk
namespace Go.Proofs.YtagblibbngmbdaaGreatDoor.Tk
def Cov (l:List UInt8):Nat→List Tok→Prop
 |a,[]=>a+skip false (l.drop a)=l.length
 |a,t::ts=>t.at'=a+skip false (l.drop a)∧0<t.text.length∧t.at'+t.text.length≤l.length∧t.text=(l.drop t.at').take t.text.length∧Cov l (t.at'+t.text.length) ts
theorem zn7 (l:List UInt8) (f p a:Nat) (hp:p≤l.length) (hf:(l.drop p).length<f) (hn:(tl f p (l.drop p)).2.1=0) (ha:a+skip false (l.drop a)=p):Cov l a (tl f p (l.drop p)).1:=by
 induction f generalizing p a with
 |zero=>omega
 |succ f ih=>
  by_cases hl:l.drop p=[]
  ·rw [hl,tl_nil]
   have:l.length≤p:=by simpa using hl
   show a+_=_
   omega
  ·by_cases hc:(tok (l.drop p)).code=0
   ·obtain ⟨h1,h2⟩:=tok_len _ hc
    rw [zjq _ _ _ hl hc] at hn ⊢
    dsimp only at hn ⊢
    rw [List.length_drop] at h2 hf
    have hsk:=skip_le ((l.drop p).drop (tok (l.drop p)).len) false
    rw [List.length_drop,List.length_drop] at hsk
    rw [List.drop_drop] at hn hsk ⊢
    rw [List.drop_drop] at hn ⊢
    by_cases hq:(tl f (p+((tok (l.drop p)).len+skip false (l.drop (p+(tok (l.drop p)).len)))) (l.drop (p+((tok (l.drop p)).len+skip false (l.drop (p+(tok (l.drop p)).len)))))).2.1=0
    ·rw [if_neg (by simpa using hq)]
     have hlen:((l.drop p).take (tok (l.drop p)).len).length=(tok (l.drop p)).len:=by
      rw [List.length_take,List.length_drop];omega
     refine ⟨ha.symm,by dsimp only;omega,by dsimp only;omega,by dsimp only;rw [hlen],?_⟩
     dsimp only
     rw [hlen]
     refine ih _ _ (by omega) (by rw [List.length_drop];omega) hq (by omega)
    ·rw [if_pos (by simpa using hq)] at hn
     exact absurd hn hq
   ·rw [tok_bad _ _ _ hl hc] at hn
    exact absurd hn hc
theorem cov_scan (l:List UInt8) (hl:l.length≤12000) (h:(scan l).2.1=0):Cov l 0 (scan l).1:=by
 unfold scan at h ⊢
 rw [if_neg (by omega)] at h ⊢
 have hs:=skip_le l false
 exact zn7 l _ _ 0 hs (by rw [List.length_drop];omega) h (by simp)
theorem scan_none (l:List UInt8) (hl:l.length≤12000) (h:(scan l).2.1 ≠ 0):(scan l).1=[]:=by
 unfold scan at h ⊢
 rw [if_neg (by omega)] at h ⊢
 exact tl_nofault _ _ _ h
theorem zlb (l:List UInt8) (f p:Nat):(tl f p l).1.length≤l.length:=by
 induction f generalizing p l with
 |zero=>simp [tl]
 |succ f ih=>
  by_cases hl:l=[]
  ·rw [hl,tl_nil];simp
  ·by_cases hc:(tok l).code=0
   ·obtain ⟨h1,h2⟩:=tok_len _ hc
    rw [zjq _ _ _ hl hc]
    dsimp only
    have h3:=ih (l.drop ((tok l).len+skip false (l.drop (tok l).len))) (p+((tok l).len+skip false (l.drop (tok l).len)))
    rw [List.length_drop] at h3
    split
    ·simp
    ·simp only [List.length_cons];omega
   ·rw [tok_bad _ _ _ hl hc];simp
theorem scan_count (l:List UInt8):(scan l).1.length≤l.length:=by
 unfold scan
 split
 ·simp
 ·have:=zlb (l.drop (skip false l)) (l.length+1) (skip false l)
  rw [List.length_drop] at this
  omega
end Go.Proofs.YtagblibbngmbdaaGreatDoor.Tk
namespace Go.Proofs.YtagblibbngmbdaaGreatDoor.Tk
end Go.Proofs.YtagblibbngmbdaaGreatDoor.Tk
namespace Go.Proofs.YtagblibbngmbdaaGreatDoor.Sx
open Go.Proofs.YtagblibbngmbdaaGreatDoor.Tk
abbrev Tr:=DataW Unit
def tE (op:Int) (nm:List UInt8) (n:Int) (L:List Tr):Tr:= .agg [.lit (.int .i64 op),.lit (.string nm),.lit (.int .i64 n),.agg L]
def tS (d at':Int) (A B T:List UInt8) (n:Int) (E body els:List Tr):Tr:=
 .agg [.lit (.int .i64 d),.lit (.int .i64 at'),.lit (.string A),.lit (.string B),.lit (.string T),.lit (.int .i64 n),.agg E,.agg body,.agg els]
def tP (nm T:List UInt8):Tr:= .agg [.lit (.string nm),.lit (.string T)]
def tG (nm:List UInt8) (at':Int) (ps body:List Tr):Tr:= .agg [.lit (.string nm),.lit (.int .i64 at'),.agg ps,.agg body]
def d0:Tr:= .nil
structure St where
 stmts:Nat
 dep:Nat
 opn:Nat
 parts:Nat
abbrev Rs (α:Type):=Sum (α × St × List Tok) (Int × Int × List Tok)
def bnd {α β:Type} (m:Rs α) (k:α→St→List Tok→Rs β):Rs β:=match m with
 | .inl (x,s,r)=>k x s r
 | .inr f=> .inr f
def place (e:Nat):List Tok→Int
 |[]=>e
 |t::_=>t.at'
def txt:List Tok→List UInt8
 |[]=>[]
 |t::_=>t.text
def bad {α:Type} (code:Int) (e:Nat) (ts:List Tok):Rs α:= .inr (code,place e ts,ts)
def ucode:List Tok→Int
 |[]=>6
 |_::_=>5
def unfit {α:Type} (e:Nat) (ts:List Tok):Rs α:=bad (ucode ts) e ts
def skp (e:Nat) (x:List UInt8) (s:St) (ts:List Tok):Rs Unit:=if txt ts=x then .inl ((),s,ts.tail) else unfit e ts
def hasKind (k:Int):List Tok→Bool
 |[]=>false
 |t::_=>t.kind == k
def tokOf (e:Nat) (k:Int) (s:St):List Tok→Rs Tok
 |[]=>unfit e []
 |t::r=>if t.kind == k then .inl (t,s,r) else unfit e (t::r)
def nameOf (e:Nat) (s:St) (ts:List Tok):Rs (List UInt8):=bnd (tokOf e 2 s ts) fun t s r=> .inl (t.text,s,r)
def numOf (e:Nat) (s:St) (ts:List Tok):Rs Int:=bnd (tokOf e 3 s ts) fun t s r=> .inl (t.n,s,r)
def ent (e:Nat) (s:St) (ts:List Tok):Rs Unit:=if s.opn=60 then bad 7 e ts else .inl ((),{ s with opn:=s.opn+1 },ts.tail)
def St.part (s:St):St:={ s with parts:=s.parts+1 }
def St.shut (s:St):St:={ s with opn:=s.opn - 1 }
def join (op:Int) (x:Tr) (m:Rs Tr):Rs Tr:=bnd m fun y s r=> .inl (tE op [] 0 [x,y],s.part,r)
def pe (e:Nat):Nat→Nat→Tr→St→List Tok→Rs Tr
 |0,_,_,_,_=> .inr (99,0,[])
 |f+1,0,_,s,ts=>bnd (bnd (pe e f 1 d0 s ts) fun x s1 r1=>
   if txt r1=[60] then join 7 x (pe e f 1 d0 s1 r1.tail) else if txt r1=[61,61] then join 8 x (pe e f 1 d0 s1 r1.tail) else .inl (x,s1,r1)) fun z s3 r3=>
    if 20<s3.parts - s.parts then .inr (8,place e ts,r3) else .inl (z,s3,r3)
 |f+1,1,_,s,ts=>bnd (pe e f 2 d0 s ts) fun x s1 r1=>pe e f 4 x s1 r1
 |f+1,2,_,s,ts=>bnd (pe e f 3 d0 s ts) fun x s1 r1=>pe e f 5 x s1 r1
 |f+1,4,x,s,ts=>
   if txt ts=[43] then bnd (join 4 x (pe e f 2 d0 s ts.tail)) fun z s1 r1=>pe e f 4 z s1 r1
   else if txt ts=[45] then bnd (join 5 x (pe e f 2 d0 s ts.tail)) fun z s1 r1=>pe e f 4 z s1 r1
   else .inl (x,s,ts)
 |f+1,5,x,s,ts=>
   if txt ts=[42] then bnd (join 6 x (pe e f 3 d0 s ts.tail)) fun z s1 r1=>pe e f 5 z s1 r1
   else .inl (x,s,ts)
 |f+1,_,_,s,ts=>
   if txt ts=[40] then bnd (ent e s ts) fun _ s1 r1=>bnd (pe e f 0 d0 s1 r1) fun x s2 r2=>bnd (skp e [41] s2 r2) fun _ s3 r3=> .inl (x,s3.shut,r3)
   else if txt ts=[45] then bnd (ent e s ts) fun _ s1 r1=>bnd (pe e f 3 d0 s1 r1) fun x s2 r2=> .inl (tE 3 [] 0 [x],s2.shut.part,r2)
   else if hasKind 3 ts then bnd (numOf e s ts) fun n s1 r1=> .inl (tE 1 [] n [],s1.part,r1)
   else bnd (nameOf e s ts) fun nm s1 r1=> .inl (tE 2 nm 0 [],s1.part,r1)
theorem pe_0 (e f:Nat) (x:Tr) (s:St) (ts:List Tok):pe e (f+1) 0 x s ts=bnd (bnd (pe e f 1 d0 s ts) fun x s1 r1=>
   if txt r1=[60] then join 7 x (pe e f 1 d0 s1 r1.tail) else if txt r1=[61,61] then join 8 x (pe e f 1 d0 s1 r1.tail) else .inl (x,s1,r1)) fun z s3 r3=>
    if 20<s3.parts - s.parts then .inr (8,place e ts,r3) else .inl (z,s3,r3):=rfl
theorem pe_1 (e f:Nat) (x:Tr) (s:St) (ts:List Tok):pe e (f+1) 1 x s ts=bnd (pe e f 2 d0 s ts) fun x s1 r1=>pe e f 4 x s1 r1:=rfl
theorem pe_2 (e f:Nat) (x:Tr) (s:St) (ts:List Tok):pe e (f+1) 2 x s ts=bnd (pe e f 3 d0 s ts) fun x s1 r1=>pe e f 5 x s1 r1:=rfl
theorem pe_4 (e f:Nat) (x:Tr) (s:St) (ts:List Tok):pe e (f+1) 4 x s ts=
   if txt ts=[43] then bnd (join 4 x (pe e f 2 d0 s ts.tail)) fun z s1 r1=>pe e f 4 z s1 r1
   else if txt ts=[45] then bnd (join 5 x (pe e f 2 d0 s ts.tail)) fun z s1 r1=>pe e f 4 z s1 r1
   else .inl (x,s,ts):=rfl
theorem pe_5 (e f:Nat) (x:Tr) (s:St) (ts:List Tok):pe e (f+1) 5 x s ts=
   if txt ts=[42] then bnd (join 6 x (pe e f 3 d0 s ts.tail)) fun z s1 r1=>pe e f 5 z s1 r1
   else .inl (x,s,ts):=rfl
theorem pe_u (e f g:Nat) (x:Tr) (s:St) (ts:List Tok) (hg:g=3∨5<g):pe e (f+1) g x s ts=
   if txt ts=[40] then bnd (ent e s ts) fun _ s1 r1=>bnd (pe e f 0 d0 s1 r1) fun x s2 r2=>bnd (skp e [41] s2 r2) fun _ s3 r3=> .inl (x,s3.shut,r3)
   else if txt ts=[45] then bnd (ent e s ts) fun _ s1 r1=>bnd (pe e f 3 d0 s1 r1) fun x s2 r2=> .inl (tE 3 [] 0 [x],s2.shut.part,r2)
   else if hasKind 3 ts then bnd (numOf e s ts) fun n s1 r1=> .inl (tE 1 [] n [],s1.part,r1)
   else bnd (nameOf e s ts) fun nm s1 r1=> .inl (tE 2 nm 0 [],s1.part,r1):=by
 match g,hg with
 |3,_=>rfl
 |_+6,_=>rfl
theorem zed (g:Nat):g=0∨g=1∨g=2∨g=4∨g=5∨(g=3∨5<g):=by omega
def wSend:List UInt8:=[115,101,110,100]
def wRecv:List UInt8:=[114,101,99,118]
def wInt:List UInt8:=[105,110,116]
def wStage:List UInt8:=[115,116,97,103,101]
def wFrom:List UInt8:=[102,114,111,109]
def wElse:List UInt8:=[101,108,115,101]
def ty (e:Nat) (acc:List UInt8) (s:St):List Tok→Rs (List UInt8)
 |[]=>unfit e []
 |t::r=>if t.text=wSend∨t.text=wRecv then (if acc.length=3 then bad 7 e (t::r) else ty e (acc++t.text.take 1) s r)
   else bnd (skp e wInt s (t::r)) fun _ s r=> .inl (acc++[105],s,r)
def brkL {σ:Type} (e:Nat) (one:σ→St→List Tok→Rs σ):Nat→Nat→σ→St→List Tok→Rs σ
 |0,_,_,_,_=> .inr (99,0,[])
 |k+1,n,acc,s,ts=>if txt ts=[44] then (if n=6 then bad 8 e ts.tail else bnd (one acc s ts.tail) fun acc s r=>brkL e one k (n+1) acc s r) else .inl (acc,s,ts)
def brk {σ:Type} (e:Nat) (one:σ→St→List Tok→Rs σ) (acc:σ) (s:St) (ts:List Tok):Rs σ:=
 bnd (skp e [40] s ts) fun _ s ts=>bnd (if txt ts=[41] then .inl (acc,s,ts) else bnd (one acc s ts) fun acc s ts=>brkL e one 7 1 acc s ts) fun acc s ts=>
  bnd (skp e [41] s ts) fun _ s ts=> .inl (acc,s,ts)
def parOne (e:Nat) (acc:List Tr) (s:St) (ts:List Tok):Rs (List Tr):=bnd (nameOf e s ts) fun nm s r=>bnd (ty e [] s r) fun T s r=> .inl (acc++[tP nm T],s,r)
def argOne (e f:Nat) (acc:List Tr) (s:St) (ts:List Tok):Rs (List Tr):=bnd (pe e f 0 d0 s ts) fun x s r=> .inl (acc++[x],s,r)
def dos:List (List UInt8):=[[108,101,116],[115,101,116],[101,109,105,116],[99,104,97,110],[99,108,111,110,101],[115,101,110,100],[99,108,111,115,101],[97,98,97,110,100,111,110],[100,114,97,105,110],[115,112,97,119,110],[116,97,107,101],[102,111,114],[114,101,112,101,97,116],[105,102]]
def doOf (x:List UInt8):Nat:=if dos.idxOf x<14 then dos.idxOf x+1 else 0
structure Flds where
 A:List UInt8
 B:List UInt8
 T:List UInt8
 n:Int
 E:List Tr
def F0:Flds:=⟨[],[],[],0,[]⟩
def plainB (e f d:Nat) (A:List UInt8) (s:St) (ts:List Tok):Rs Flds:=
 if d=1∨d=2 then bnd (skp e [61] s ts) fun _ s r=>bnd (pe e f 0 d0 s r) fun x s r=> .inl ({ F0 with A:=A,E:=[x] },s,r)
 else if d=3∨d=6 then bnd (pe e f 0 d0 s ts) fun x s r=> .inl ({ F0 with A:=A,E:=[x] },s,r)
 else if d=4 then bnd (nameOf e s ts) fun B s r=>bnd (ty e [] s r) fun T s r=>bnd (numOf e s r) fun n s r=> .inl ({ F0 with A:=A,B:=B,T:=T,n:=n },s,r)
 else if d=5 then bnd (nameOf e s ts) fun B s r=> .inl ({ F0 with A:=A,B:=B },s,r)
 else if d=10 then bnd (brk e (argOne e f) [] s ts) fun l s r=> .inl ({ F0 with A:=A,E:=l },s,r)
 else .inl ({ F0 with A:=A },s,ts)
def plain (e f d:Nat) (s:St) (ts:List Tok):Rs Flds:=
 if d=3 then plainB e f d [] s ts else bnd (nameOf e s ts) fun A s r=>plainB e f d A s r
def nestA (e f d:Nat) (s:St) (ts:List Tok):Rs Flds:=
 if d=11∨d=12 then bnd (nameOf e s ts) fun A s r=>bnd (skp e wFrom s r) fun _ s r=>bnd (nameOf e s r) fun B s r=> .inl ({ F0 with A:=A,B:=B },s,r)
 else bnd (pe e f 0 d0 s ts) fun x s r=> .inl ({ F0 with E:=[x] },s,r)
def St.up (s:St):St:={ s with dep:=s.dep+1 }
def St.down (s:St):St:={ s with dep:=s.dep - 1 }
def St.stmt (s:St):St:={ s with stmts:=s.stmts+1 }
def ps (e:Nat):Nat→Nat→List Tr→St→List Tok→Rs (List Tr)
 |0,_,_,_,_=> .inr (99,0,[])
 |f+1,0,_,s,ts=>if txt ts=[123]∧s.dep=8 then bad 7 e ts else
   bnd (skp e [123] s ts) fun _ s r=>bnd (ps e f 2 [] s.up r) fun l s r=>bnd (skp e [125] s r) fun _ s r=> .inl (l,s.down,r)
 |f+1,1,_,s,ts=>
   if doOf (txt ts)=0 then unfit e ts else if s.stmts=300 then bad 8 e ts else
   if doOf (txt ts)<11 then bnd (plain e f (doOf (txt ts)) s.stmt ts.tail) fun x s r=>bnd (skp e [59] s r) fun _ s r=> .inl ([tS (doOf (txt ts)) (place e ts) x.A x.B x.T x.n x.E [] []],s,r)
   else bnd (nestA e f (doOf (txt ts)) s.stmt ts.tail) fun x s r=>bnd (ps e f 0 [] s r) fun body s r=>
    bnd (if (doOf (txt ts)=11∨doOf (txt ts)=14)∧txt r=wElse then bnd (skp e wElse s r) fun _ s r=>ps e f 0 [] s r else .inl ([],s,r)) fun els s r=>
     .inl ([tS (doOf (txt ts)) (place e ts) x.A x.B [] 0 x.E body els],s,r)
 |f+1,_,acc,s,ts=>if txt ts=[125] then .inl (acc,s,ts) else bnd (ps e f 1 [] s ts) fun l s r=>ps e f 2 (acc++l) s r
def stage (e f:Nat) (s:St) (ts:List Tok):Rs Tr:=
 bnd (skp e wStage s ts) fun _ s r=>bnd (nameOf e s r) fun nm s r=>bnd (brk e (parOne e) [] s r) fun l s r=>bnd (ps e f 0 [] s r) fun body s r=> .inl (tG nm (place e ts) l body,s,r)
def stages (e f:Nat):Nat→List Tr→St→List Tok→Rs (List Tr)
 |0,_,_,_=> .inr (99,0,[])
 |k+1,acc,s,ts=>if ts.isEmpty then .inl (acc,s,ts) else if acc.length=10∧txt ts=wStage then bad 8 e ts else bnd (stage e f s ts) fun x s r=>stages e f k (acc++[x]) s r
def s0:St:=⟨0,0,0,0⟩
def prog (e f k:Nat) (ts:List Tok):Rs (List Tr):=bnd (stage e f s0 ts) fun x s r=>stages e f k [x] s r
end Go.Proofs.YtagblibbngmbdaaGreatDoor.Sx
namespace Go.Proofs.YtagblibbngmbdaaGreatDoor.Sx
open Go.Proofs.YtagblibbngmbdaaGreatDoor.Tk
structure Kept (s:St) (ts:List Tok) (s':St) (r:List Tok):Prop where
 stmts:s.stmts≤s'.stmts
 dep:s'.dep=s.dep
 opn:s'.opn=s.opn
 parts:s'.parts+r.length≤s.parts+ts.length
 pm:s.parts≤s'.parts
 len:r.length≤ts.length
theorem Kept.refl (s:St) (ts:List Tok):Kept s ts s ts:=⟨Nat.le_refl _,rfl,rfl,Nat.le_refl _,Nat.le_refl _,Nat.le_refl _⟩
theorem Kept.trans {s s1 s2:St} {t t1 t2:List Tok} (h:Kept s t s1 t1) (k:Kept s1 t1 s2 t2):Kept s t s2 t2:=
 ⟨Nat.le_trans h.stmts k.stmts,k.dep.trans h.dep,k.opn.trans h.opn,Nat.le_trans k.parts h.parts,Nat.le_trans h.pm k.pm,Nat.le_trans k.len h.len⟩
theorem bnd_ok {α β:Type} {m:Rs α} {k:α→St→List Tok→Rs β} {z:β} {s':St} {r:List Tok} (h:bnd m k= .inl (z,s',r)): ∃ x s1 r1,m= .inl (x,s1,r1)∧k x s1 r1= .inl (z,s',r):=by
 cases m with
 |inl p=>exact ⟨p.1,p.2.1,p.2.2,rfl,h⟩
 |inr f=>cases h
theorem skp_ok {e:Nat} {x:List UInt8} {s s':St} {ts r:List Tok} {u:Unit} (h:skp e x s ts= .inl (u,s',r)):txt ts=x∧s'=s∧r=ts.tail:=by
 unfold skp at h
 split at h
 ·rename_i hx
  simp only [Sum.inl.injEq,Prod.mk.injEq] at h
  exact ⟨hx,h.2.1.symm,h.2.2.symm⟩
 ·cases h
theorem zhh {e:Nat} {k:Int} {s s':St} {ts r:List Tok} {t:Tok} (h:tokOf e k s ts= .inl (t,s',r)):ts=t::r∧s'=s∧t.kind=k:=by
 cases ts with
 |nil=>cases h
 |cons a l=>
  simp only [tokOf] at h
  split at h
  ·rename_i hk
   simp only [Sum.inl.injEq,Prod.mk.injEq] at h
   obtain ⟨rfl,rfl,rfl⟩:=h
   exact ⟨rfl,rfl,by simpa using hk⟩
  ·cases h
theorem nameOf_ok {e:Nat} {s s':St} {ts r:List Tok} {x:List UInt8} (h:nameOf e s ts= .inl (x,s',r)): ∃ t,ts=t::r∧s'=s∧t.kind=2∧x=t.text:=by
 obtain ⟨t,s1,r1,h1,h2⟩:=bnd_ok h
 obtain ⟨e1,e2,e3⟩:=zhh h1
 simp only [Sum.inl.injEq,Prod.mk.injEq] at h2
 obtain ⟨rfl,rfl,rfl⟩:=h2
 exact ⟨t,e1,e2,e3,rfl⟩
theorem numOf_ok {e:Nat} {s s':St} {ts r:List Tok} {x:Int} (h:numOf e s ts= .inl (x,s',r)): ∃ t,ts=t::r∧s'=s∧t.kind=3∧x=t.n:=by
 obtain ⟨t,s1,r1,h1,h2⟩:=bnd_ok h
 obtain ⟨e1,e2,e3⟩:=zhh h1
 simp only [Sum.inl.injEq,Prod.mk.injEq] at h2
 obtain ⟨rfl,rfl,rfl⟩:=h2
 exact ⟨t,e1,e2,e3,rfl⟩
theorem txt_len {ts:List Tok} {b:UInt8} {l:List UInt8} (h:txt ts=b::l):ts.tail.length+1=ts.length:=by
 cases ts with
 |nil=>cases h
 |cons t r=>rfl
theorem ent_ok {e:Nat} {s s':St} {ts r:List Tok} {u:Unit} (h:ent e s ts= .inl (u,s',r)):s.opn ≠ 60∧s'={ s with opn:=s.opn+1 }∧r=ts.tail:=by
 unfold ent at h
 split at h
 ·cases h
 ·rename_i hx
  simp only [Sum.inl.injEq,Prod.mk.injEq] at h
  exact ⟨hx,h.2.1.symm,h.2.2.symm⟩
theorem join_ok {op:Int} {x z:Tr} {m:Rs Tr} {s':St} {r:List Tok} (h:join op x m= .inl (z,s',r)): ∃ y s1,m= .inl (y,s1,r)∧z=tE op [] 0 [x,y]∧s'=s1.part:=by
 obtain ⟨y,s1,r1,h1,h2⟩:=bnd_ok h
 simp only [Sum.inl.injEq,Prod.mk.injEq] at h2
 obtain ⟨rfl,rfl,rfl⟩:=h2
 exact ⟨y,s1,h1,rfl,rfl⟩
theorem Kept.join {s s1:St} {ts r:List Tok} {b:UInt8} {l:List UInt8} (ht:txt ts=b::l) (h:Kept s ts.tail s1 r):Kept s ts s1.part r:=by
 have h1:=txt_len ht
 exact ⟨h.stmts,h.dep,h.opn,by have:=h.parts;simp only [St.part];omega,by have:=h.pm;simp only [St.part];omega,by have:=h.len;omega⟩
theorem pe_keeps (e f g:Nat) (x z:Tr) (s s':St) (ts r:List Tok) (h:pe e f g x s ts= .inl (z,s',r)):Kept s ts s' r:=by
 induction f generalizing g x z s s' ts r with
 |zero=>cases h
 |succ f ih=>
  rcases zed g with rfl|rfl|rfl|rfl|rfl|hg
  ·rw [pe_0] at h
   obtain ⟨z1,s3,r3,h1,h2⟩:=bnd_ok h
   obtain ⟨y,s1,r1,h3,h4⟩:=bnd_ok h1
   have k1:=ih _ _ _ _ _ _ _ h3
   have k2:Kept s1 r1 s3 r3:=by
    split at h4
    ·rename_i ht
     obtain ⟨y2,s2,h5,rfl,rfl⟩:=join_ok h4
     exact (ih _ _ _ _ _ _ _ h5).join ht
    ·split at h4
     ·rename_i ht
      obtain ⟨y2,s2,h5,rfl,rfl⟩:=join_ok h4
      exact (ih _ _ _ _ _ _ _ h5).join ht
     ·simp only [Sum.inl.injEq,Prod.mk.injEq] at h4
      obtain ⟨rfl,rfl,rfl⟩:=h4
      exact Kept.refl _ _
   split at h2
   ·cases h2
   ·simp only [Sum.inl.injEq,Prod.mk.injEq] at h2
    obtain ⟨rfl,rfl,rfl⟩:=h2
    exact k1.trans k2
  ·rw [pe_1] at h
   obtain ⟨y,s1,r1,h3,h4⟩:=bnd_ok h
   exact (ih _ _ _ _ _ _ _ h3).trans (ih _ _ _ _ _ _ _ h4)
  ·rw [pe_2] at h
   obtain ⟨y,s1,r1,h3,h4⟩:=bnd_ok h
   exact (ih _ _ _ _ _ _ _ h3).trans (ih _ _ _ _ _ _ _ h4)
  ·rw [pe_4] at h
   split at h
   ·rename_i ht
    obtain ⟨y,s1,r1,h3,h4⟩:=bnd_ok h
    obtain ⟨y2,s2,h5,rfl,rfl⟩:=join_ok h3
    exact ((ih _ _ _ _ _ _ _ h5).join ht).trans (ih _ _ _ _ _ _ _ h4)
   ·split at h
    ·rename_i ht
     obtain ⟨y,s1,r1,h3,h4⟩:=bnd_ok h
     obtain ⟨y2,s2,h5,rfl,rfl⟩:=join_ok h3
     exact ((ih _ _ _ _ _ _ _ h5).join ht).trans (ih _ _ _ _ _ _ _ h4)
    ·simp only [Sum.inl.injEq,Prod.mk.injEq] at h
     obtain ⟨rfl,rfl,rfl⟩:=h
     exact Kept.refl _ _
  ·rw [pe_5] at h
   split at h
   ·rename_i ht
    obtain ⟨y,s1,r1,h3,h4⟩:=bnd_ok h
    obtain ⟨y2,s2,h5,rfl,rfl⟩:=join_ok h3
    exact ((ih _ _ _ _ _ _ _ h5).join ht).trans (ih _ _ _ _ _ _ _ h4)
   ·simp only [Sum.inl.injEq,Prod.mk.injEq] at h
    obtain ⟨rfl,rfl,rfl⟩:=h
    exact Kept.refl _ _
  ·rw [pe_u _ _ _ _ _ _ hg] at h
   split at h
   ·rename_i ht
    obtain ⟨_,s1,r1,h1,h2⟩:=bnd_ok h
    obtain ⟨y,s2,r2,h3,h4⟩:=bnd_ok h2
    obtain ⟨_,s3,r3,h5,h6⟩:=bnd_ok h4
    obtain ⟨_,rfl,rfl⟩:=ent_ok h1
    obtain ⟨ht2,rfl,rfl⟩:=skp_ok h5
    have k:=ih _ _ _ _ _ _ _ h3
    have l1:=txt_len ht
    have l2:=txt_len ht2
    simp only [Sum.inl.injEq,Prod.mk.injEq] at h6
    obtain ⟨rfl,rfl,rfl⟩:=h6
    exact ⟨k.stmts,k.dep,by have:=k.opn;simp only [St.shut] at *;omega,by have:=k.parts;simp only [St.shut] at *;omega,k.pm,by have:=k.len;omega⟩
   ·split at h
    ·rename_i ht
     obtain ⟨_,s1,r1,h1,h2⟩:=bnd_ok h
     obtain ⟨y,s2,r2,h3,h4⟩:=bnd_ok h2
     obtain ⟨_,rfl,rfl⟩:=ent_ok h1
     have k:=ih _ _ _ _ _ _ _ h3
     have l1:=txt_len ht
     simp only [Sum.inl.injEq,Prod.mk.injEq] at h4
     obtain ⟨rfl,rfl,rfl⟩:=h4
     exact ⟨k.stmts,k.dep,by have:=k.opn;simp only [St.shut,St.part] at *;omega,by have:=k.parts;simp only [St.shut,St.part] at *;omega,by have:=k.pm;simp only [St.shut,St.part] at *;omega,by have:=k.len;omega⟩
    ·split at h
     ·obtain ⟨y,s1,r1,h3,h4⟩:=bnd_ok h
      obtain ⟨t,rfl,rfl,_,rfl⟩:=numOf_ok h3
      simp only [Sum.inl.injEq,Prod.mk.injEq] at h4
      obtain ⟨rfl,rfl,rfl⟩:=h4
      exact ⟨Nat.le_refl _,rfl,rfl,by simp only [St.part,List.length_cons];omega,by simp only [St.part];omega,by simp⟩
     ·obtain ⟨y,s1,r1,h3,h4⟩:=bnd_ok h
      obtain ⟨t,rfl,rfl,_,rfl⟩:=nameOf_ok h3
      simp only [Sum.inl.injEq,Prod.mk.injEq] at h4
      obtain ⟨rfl,rfl,rfl⟩:=h4
      exact ⟨Nat.le_refl _,rfl,rfl,by simp only [St.part,List.length_cons];omega,by simp only [St.part];omega,by simp⟩
end Go.Proofs.YtagblibbngmbdaaGreatDoor.Sx
namespace Go.Proofs.YtagblibbngmbdaaGreatDoor.Sx
open Go.Proofs.YtagblibbngmbdaaGreatDoor.Tk
theorem zee {s:St} {t:Tok} {r:List Tok}:Kept s (t::r) s r:=⟨Nat.le_refl _,rfl,rfl,by simp only [List.length_cons];omega,Nat.le_refl _,by simp⟩
theorem ze9 {s:St} {ts:List Tok}:Kept s ts s ts.tail:=⟨Nat.le_refl _,rfl,rfl,by simp only [List.length_tail];omega,Nat.le_refl _,by simp⟩
theorem skp_keeps {e:Nat} {x:List UInt8} {s s':St} {ts r:List Tok} {u:Unit} (h:skp e x s ts= .inl (u,s',r)):Kept s ts s' r:=by
 obtain ⟨_,rfl,rfl⟩:=skp_ok h
 exact ze9
theorem za3 {e:Nat} {s s':St} {ts r:List Tok} {x:List UInt8} (h:nameOf e s ts= .inl (x,s',r)):Kept s ts s' r:=by
 obtain ⟨t,rfl,rfl,_,_⟩:=nameOf_ok h
 exact zee
theorem zjr {e:Nat} {s s':St} {ts r:List Tok} {x:Int} (h:numOf e s ts= .inl (x,s',r)):Kept s ts s' r:=by
 obtain ⟨t,rfl,rfl,_,_⟩:=numOf_ok h
 exact zee
theorem inl_ok {α:Type} {x z:α} {s s':St} {r r':List Tok} (h:(.inl (x,s,r):Rs α)= .inl (z,s',r')):x=z∧s=s'∧r=r':=by
 simp only [Sum.inl.injEq,Prod.mk.injEq] at h
 exact h
theorem zhi (e:Nat) (acc:List UInt8) (s s':St) (ts r:List Tok) (x:List UInt8) (h:ty e acc s ts= .inl (x,s',r)):Kept s ts s' r:=by
 induction ts generalizing acc with
 |nil=>cases h
 |cons t l ih=>
  simp only [ty] at h
  split at h
  ·split at h
   ·cases h
   ·exact zee.trans (ih _ h)
  ·obtain ⟨u,s1,r1,h1,h2⟩:=bnd_ok h
   obtain ⟨_,rfl,rfl⟩:=inl_ok h2
   exact skp_keeps h1
theorem zhz (e:Nat) {σ:Type} (one:σ→St→List Tok→Rs σ) (hone: ∀ acc s ts acc' s' r,one acc s ts= .inl (acc',s',r)→Kept s ts s' r) (k m:Nat) (acc acc':σ) (s s':St) (ts r:List Tok)
  (h:brkL e one k m acc s ts= .inl (acc',s',r)):Kept s ts s' r:=by
 induction k generalizing m acc s ts with
 |zero=>cases h
 |succ k ih=>
  simp only [brkL] at h
  split at h
  ·split at h
   ·cases h
   ·obtain ⟨a,s1,r1,h1,h2⟩:=bnd_ok h
    exact (ze9.trans (hone _ _ _ _ _ _ h1)).trans (ih _ _ _ _ h2)
  ·obtain ⟨_,rfl,rfl⟩:=inl_ok h
   exact Kept.refl _ _
theorem zc4 (e:Nat) {σ:Type} (one:σ→St→List Tok→Rs σ) (hone: ∀ acc s ts acc' s' r,one acc s ts= .inl (acc',s',r)→Kept s ts s' r) (acc acc':σ) (s s':St) (ts r:List Tok)
  (h:brk e one acc s ts= .inl (acc',s',r)):Kept s ts s' r:=by
 obtain ⟨u,s1,r1,h1,h2⟩:=bnd_ok h
 obtain ⟨a,s2,r2,h3,h4⟩:=bnd_ok h2
 obtain ⟨u3,s3,r3,h5,h6⟩:=bnd_ok h4
 obtain ⟨_,rfl,rfl⟩:=inl_ok h6
 have k2:Kept s1 r1 s2 r2:=by
  split at h3
  ·obtain ⟨_,rfl,rfl⟩:=inl_ok h3
   exact Kept.refl _ _
  ·obtain ⟨a1,s5,r5,h7,h8⟩:=bnd_ok h3
   exact (hone _ _ _ _ _ _ h7).trans (zhz e one hone _ _ _ _ _ _ _ _ h8)
 exact ((skp_keeps h1).trans k2).trans (skp_keeps h5)
theorem parOne_keeps (e:Nat) (acc:List Tr) (s:St) (ts:List Tok) (acc':List Tr) (s':St) (r:List Tok) (h:parOne e acc s ts= .inl (acc',s',r)):Kept s ts s' r:=by
 obtain ⟨a,s1,r1,h1,h2⟩:=bnd_ok h
 obtain ⟨b,s2,r2,h3,h4⟩:=bnd_ok h2
 obtain ⟨_,rfl,rfl⟩:=inl_ok h4
 exact (za3 h1).trans (zhi _ _ _ _ _ _ _ h3)
theorem argOne_keeps (e f:Nat) (acc:List Tr) (s:St) (ts:List Tok) (acc':List Tr) (s':St) (r:List Tok) (h:argOne e f acc s ts= .inl (acc',s',r)):Kept s ts s' r:=by
 obtain ⟨a,s1,r1,h1,h2⟩:=bnd_ok h
 obtain ⟨_,rfl,rfl⟩:=inl_ok h2
 exact pe_keeps _ _ _ _ _ _ _ _ _ h1
theorem zct (e f d:Nat) (A:List UInt8) (s s':St) (ts r:List Tok) (x:Flds) (h:plainB e f d A s ts= .inl (x,s',r)):Kept s ts s' r:=by
 unfold plainB at h
 split at h
 ·obtain ⟨a,s1,r1,h1,h2⟩:=bnd_ok h
  obtain ⟨b,s2,r2,h3,h4⟩:=bnd_ok h2
  obtain ⟨_,rfl,rfl⟩:=inl_ok h4
  exact (skp_keeps h1).trans (pe_keeps _ _ _ _ _ _ _ _ _ h3)
 ·split at h
  ·obtain ⟨a,s1,r1,h1,h2⟩:=bnd_ok h
   obtain ⟨_,rfl,rfl⟩:=inl_ok h2
   exact pe_keeps _ _ _ _ _ _ _ _ _ h1
  ·split at h
   ·obtain ⟨a,s1,r1,h1,h2⟩:=bnd_ok h
    obtain ⟨b,s2,r2,h3,h4⟩:=bnd_ok h2
    obtain ⟨c,s3,r3,h5,h6⟩:=bnd_ok h4
    obtain ⟨_,rfl,rfl⟩:=inl_ok h6
    exact ((za3 h1).trans (zhi _ _ _ _ _ _ _ h3)).trans (zjr h5)
   ·split at h
    ·obtain ⟨a,s1,r1,h1,h2⟩:=bnd_ok h
     obtain ⟨_,rfl,rfl⟩:=inl_ok h2
     exact za3 h1
    ·split at h
     ·obtain ⟨a,s1,r1,h1,h2⟩:=bnd_ok h
      obtain ⟨_,rfl,rfl⟩:=inl_ok h2
      exact zc4 e _ (fun acc s ts acc' s' r=>argOne_keeps e f acc s ts acc' s' r) _ _ _ _ _ _ h1
     ·obtain ⟨_,rfl,rfl⟩:=inl_ok h
      exact Kept.refl _ _
theorem plain_keeps (e f d:Nat) (s s':St) (ts r:List Tok) (x:Flds) (h:plain e f d s ts= .inl (x,s',r)):Kept s ts s' r:=by
 unfold plain at h
 split at h
 ·exact zct _ _ _ _ _ _ _ _ _ h
 ·obtain ⟨a,s1,r1,h1,h2⟩:=bnd_ok h
  exact (za3 h1).trans (zct _ _ _ _ _ _ _ _ _ h2)
theorem nestA_keeps (e f d:Nat) (s s':St) (ts r:List Tok) (x:Flds) (h:nestA e f d s ts= .inl (x,s',r)):Kept s ts s' r:=by
 unfold nestA at h
 split at h
 ·obtain ⟨a,s1,r1,h1,h2⟩:=bnd_ok h
  obtain ⟨b,s2,r2,h3,h4⟩:=bnd_ok h2
  obtain ⟨c,s3,r3,h5,h6⟩:=bnd_ok h4
  obtain ⟨_,rfl,rfl⟩:=inl_ok h6
  exact ((za3 h1).trans (skp_keeps h3)).trans (za3 h5)
 ·obtain ⟨a,s1,r1,h1,h2⟩:=bnd_ok h
  obtain ⟨_,rfl,rfl⟩:=inl_ok h2
  exact pe_keeps _ _ _ _ _ _ _ _ _ h1
theorem ps_0 (e f:Nat) (acc:List Tr) (s:St) (ts:List Tok):ps e (f+1) 0 acc s ts=if txt ts=[123]∧s.dep=8 then bad 7 e ts else
   bnd (skp e [123] s ts) fun _ s r=>bnd (ps e f 2 [] s.up r) fun l s r=>bnd (skp e [125] s r) fun _ s r=> .inl (l,s.down,r):=rfl
theorem ps_1 (e f:Nat) (acc:List Tr) (s:St) (ts:List Tok):ps e (f+1) 1 acc s ts=
   if doOf (txt ts)=0 then unfit e ts else if s.stmts=300 then bad 8 e ts else
   if doOf (txt ts)<11 then bnd (plain e f (doOf (txt ts)) s.stmt ts.tail) fun x s r=>bnd (skp e [59] s r) fun _ s r=> .inl ([tS (doOf (txt ts)) (place e ts) x.A x.B x.T x.n x.E [] []],s,r)
   else bnd (nestA e f (doOf (txt ts)) s.stmt ts.tail) fun x s r=>bnd (ps e f 0 [] s r) fun body s r=>
    bnd (if (doOf (txt ts)=11∨doOf (txt ts)=14)∧txt r=wElse then bnd (skp e wElse s r) fun _ s r=>ps e f 0 [] s r else .inl ([],s,r)) fun els s r=>
     .inl ([tS (doOf (txt ts)) (place e ts) x.A x.B [] 0 x.E body els],s,r):=rfl
theorem ps_2 (e f g:Nat) (acc:List Tr) (s:St) (ts:List Tok) (hg:2≤g):ps e (f+1) g acc s ts=if txt ts=[125] then .inl (acc,s,ts) else bnd (ps e f 1 [] s ts) fun l s r=>ps e f 2 (acc++l) s r:=by
 match g,hg with
 |_+2,_=>rfl
theorem zfa {s s':St} {ts r:List Tok} (h:Kept s.stmt ts.tail s' r):Kept s ts s' r∧s.stmts+1≤s'.stmts:=
 ⟨⟨by have:=h.stmts;simp only [St.stmt] at this;omega,h.dep,h.opn,by have:=h.parts;simp only [St.stmt,List.length_tail] at this;omega,h.pm,by have:=h.len;simp only [List.length_tail] at this;omega⟩,h.stmts⟩
structure KeptS (g:Nat) (acc l:List Tr) (s:St) (ts:List Tok) (s':St) (r:List Tok):Prop where
 kp:Kept s ts s' r
 one:g=1→(∃ d,l=[d])∧s.stmts+1≤s'.stmts
 more:2≤g→l.length+s.stmts≤acc.length+s'.stmts
theorem ps_keeps (e f g:Nat) (acc l:List Tr) (s s':St) (ts r:List Tok) (h:ps e f g acc s ts= .inl (l,s',r)):KeptS g acc l s ts s' r:=by
 induction f generalizing g acc l s s' ts r with
 |zero=>cases h
 |succ f ih=>
  rcases (by omega:g=0∨g=1∨2≤g) with rfl|rfl|hg
  ·rw [ps_0] at h
   split at h
   ·cases h
   ·obtain ⟨u,s1,r1,h1,h2⟩:=bnd_ok h
    obtain ⟨l2,s2,r2,h3,h4⟩:=bnd_ok h2
    obtain ⟨u3,s3,r3,h5,h6⟩:=bnd_ok h4
    obtain ⟨rfl,rfl,rfl⟩:=inl_ok h6
    have k1:=skp_keeps h1
    have k2:=(ih _ _ _ _ _ _ _ h3).kp
    have k3:=skp_keeps h5
    refine ⟨⟨?_,?_,?_,?_,?_,?_⟩,by omega,by omega⟩
    ·have:=k1.stmts;have:=k2.stmts;have:=k3.stmts;simp only [St.up,St.down] at *;omega
    ·have:=k1.dep;have:=k2.dep;have:=k3.dep;simp only [St.up,St.down] at *;omega
    ·have:=k1.opn;have:=k2.opn;have:=k3.opn;simp only [St.up,St.down] at *;omega
    ·have:=k1.parts;have:=k2.parts;have:=k3.parts;simp only [St.up,St.down] at *;omega
    ·have:=k1.pm;have:=k2.pm;have:=k3.pm;simp only [St.up,St.down] at *;omega
    ·have:=k1.len;have:=k2.len;have:=k3.len;omega
  ·rw [ps_1] at h
   split at h
   ·cases h
   ·split at h
    ·cases h
    ·split at h
     ·obtain ⟨x,s1,r1,h1,h2⟩:=bnd_ok h
      obtain ⟨u3,s3,r3,h5,h6⟩:=bnd_ok h2
      obtain ⟨rfl,rfl,rfl⟩:=inl_ok h6
      have k:=zfa ((plain_keeps _ _ _ _ _ _ _ _ h1).trans (skp_keeps h5))
      exact ⟨k.1,fun _=>⟨⟨_,rfl⟩,k.2⟩,by omega⟩
     ·obtain ⟨x,s1,r1,h1,h2⟩:=bnd_ok h
      obtain ⟨body,s2,r2,h3,h4⟩:=bnd_ok h2
      obtain ⟨els,s3,r3,h5,h6⟩:=bnd_ok h4
      obtain ⟨rfl,rfl,rfl⟩:=inl_ok h6
      have k3:Kept s2 r2 s3 r3:=by
       split at h5
       ·obtain ⟨u7,s7,r7,h7,h8⟩:=bnd_ok h5
        exact (skp_keeps h7).trans (ih _ _ _ _ _ _ _ h8).kp
       ·obtain ⟨_,rfl,rfl⟩:=inl_ok h5
        exact Kept.refl _ _
      have k:=zfa (((nestA_keeps _ _ _ _ _ _ _ _ h1).trans (ih _ _ _ _ _ _ _ h3).kp).trans k3)
      exact ⟨k.1,fun _=>⟨⟨_,rfl⟩,k.2⟩,by omega⟩
  ·rw [ps_2 _ _ _ _ _ _ hg] at h
   split at h
   ·obtain ⟨rfl,rfl,rfl⟩:=inl_ok h
    exact ⟨Kept.refl _ _,by omega,fun _=>Nat.le_refl _⟩
   ·obtain ⟨l1,s1,r1,h1,h2⟩:=bnd_ok h
    have k1:=ih _ _ _ _ _ _ _ h1
    have k2:=ih _ _ _ _ _ _ _ h2
    obtain ⟨⟨d,rfl⟩,hs⟩:=k1.one rfl
    refine ⟨k1.kp.trans k2.kp,by omega,fun _=> ?_⟩
    have:=k2.more (Nat.le_refl _)
    simp only [List.length_append,List.length_singleton] at this
    omega
theorem stage_keeps (e f:Nat) (s s':St) (ts r:List Tok) (x:Tr) (h:stage e f s ts= .inl (x,s',r)):Kept s ts s' r∧r.length<ts.length:=by
 obtain ⟨u,s1,r1,h1,h2⟩:=bnd_ok h
 obtain ⟨nm,s2,r2,h3,h4⟩:=bnd_ok h2
 obtain ⟨l,s3,r3,h5,h6⟩:=bnd_ok h4
 obtain ⟨b,s4,r4,h7,h8⟩:=bnd_ok h6
 obtain ⟨rfl,rfl,rfl⟩:=inl_ok h8
 have k2:=za3 h3
 have k3:=zc4 e _ (fun acc s ts acc' s' r=>parOne_keeps e acc s ts acc' s' r) _ _ _ _ _ _ h5
 have k4:=(ps_keeps _ _ _ _ _ _ _ _ _ h7).kp
 refine ⟨(((skp_keeps h1).trans k2).trans k3).trans k4,?_⟩
 obtain ⟨ht,rfl,rfl⟩:=skp_ok h1
 have:=txt_len ht
 have:=k2.len
 have:=k3.len
 have:=k4.len
 omega
end Go.Proofs.YtagblibbngmbdaaGreatDoor.Sx
