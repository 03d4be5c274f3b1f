import Derived.Test.YtagklnaaoclmhaaGreatDoorMnAD
set_option linter.unusedSimpArgs false
set_option linter.unusedVariables false
set_option maxRecDepth 100000
set_option maxHeartbeats 16000000
namespace Go.Proofs.YtagklnaaoclmhaaGreatDoor
open Go.RowKit
def jg:List Nat->Nat
 | []=>0
 | x :: l=>x+jg l
def fd (h:Nat->(Nat->Nat)->Nat):Nat->Nat->Nat
 | 0,_=>0
 | f+1,i=>h i (fd h f)
def Ut (h:Nat->(Nat->Nat)->Nat)(n:Nat):Prop:=∀i,i<n->∀g g':Nat->Nat,(∀j,j<i->g j=g' j)->h i g=h i g'
theorem ED {h:Nat->(Nat->Nat)->Nat}{n:Nat}(hl:Ut h n):∀f g i,i<n->i<f->i<g->fd h f i=fd h g i
 | 0,_,_,_,x,_=>absurd x (by omega)
 | _,0,_,_,_,x=>absurd x (by omega)
 | f+1,g+1,i,hi,hf,hg=>by
  rw[fd,fd]
  exact hl i hi _ _ (fun j hj=>ED hl f g j (by omega) (by omega) (by omega))
theorem EC {h:Nat->(Nat->Nat)->Nat}{n:Nat}(hl:Ut h n){i:Nat}(hi:i<n):fd h n i=h i (fd h n):=by
 rw[ED hl n (n+1) i hi hi (by omega),fd]
theorem kI {l:List Nat}{g g':Nat->Nat}(h:∀j∈l,g j=g' j):jg (l.map g)=jg (l.map g'):=by
 rw[List.map_congr_left h]
theorem Mb {g g':Nat->Nat}:∀{l:List Nat},(∀j∈l,g j<=g' j)->jg (l.map g)<=jg (l.map g')
 | [],_=>Nat.le_refl _
 | x :: l,h=>by
  simp only[List.map_cons,jg]
  have:=h x (List.mem_cons_self ..)
  have:=Mb (l:=l) (fun j hj=>h j (List.mem_cons_of_mem _ hj))
  omega
theorem qh {g:Nat->Nat}:∀{l:List Nat} {j},j∈l->g j<=jg (l.map g)
 | x :: l,j,h=>by
  simp only[List.map_cons,jg]
  rcases List.mem_cons.1 h with e | e
  ·subst e;omega
  ·have:=qh (g:=g) e;omega
def cx (f:Nat->Nat):Nat->Nat
 | 0=>0
 | n+1=>cx f n+f n
theorem gL {f g:Nat->Nat}:∀n,(∀i,i<n->f i<=g i)->cx f n<=cx g n
 | 0,_=>Nat.le_refl _
 | n+1,h=>by
  have:=gL n (fun i hi=>h i (by omega))
  have:=h n (by omega)
  simp only[cx];omega
theorem ve {f g:Nat->Nat}{j c:Nat}(hc:f j+c<=g j):∀n,j<n->(∀i,i<n->f i<=g i)->cx f n+c<=cx g n
 | 0,hj,_=>absurd hj (by omega)
 | n+1,hj,h=>by
  simp only[cx]
  by_cases e:j=n
  ·subst e
   have:=gL j (fun i hi=>h i (by omega));omega
  ·have:=ve hc n (by omega) (fun i hi=>h i (by omega))
   have:=h n (by omega);omega
section
variable (rs:List Rl) (ns:List Nd) (S:Nat->Bool) (rk:Nat->Nat) (w0 w:Nat->Nat)
def qS (step:Nat->Nat)(e:Nat->Bool):List Nat->Nat
 | []=>0
 | j :: l=>if e j then max (step j) (qS step e l) else step j
def qM (step:Nat->Nat):List Nat->Nat
 | []=>0
 | j :: l=>max (step j) (qM step l)
def qH (i:Nat)(g:Nat->Nat):Nat:=
 if (ap ns i).kind=3 then rk (dI rs (ap ns i))+1
 else if (ap ns i).kind=5 then qS g (cE rs ns S ns.length) (ap ns i).subs
 else qM g (ap ns i).subs
def bH (i:Nat)(g:Nat->Nat):Nat:=
 if (ap ns i).kind=3 then w0 (dI rs (ap ns i))
 else if (ap ns i).kind=4 then jg ((ap ns i).subs.map g)
 else if (ap ns i).kind=5 then (if (ap ns i).subs.all (cE rs ns S ns.length) then jg ((ap ns i).subs.map g) else 0)
 else if (ap ns i).kind=6 then jg ((ap ns i).subs.map g)
 else 0
def aH (i:Nat)(g:Nat->Nat):Nat:=
 if (ap ns i).kind=3 then w (dI rs (ap ns i))
 else if (ap ns i).kind=4\/(ap ns i).kind=5\/(ap ns i).kind=6 then jg ((ap ns i).subs.map g)
 else 0
end
theorem Bw {g g':Nat->Nat}{e:Nat->Bool}:∀{l:List Nat},(∀j∈l,g j=g' j)->qS g e l=qS g' e l
 | [],_=>rfl
 | j :: l,h=>by
  rw[qS,qS,h j (List.mem_cons_self ..),Bw (l:=l) (fun j hj=>h j (List.mem_cons_of_mem _ hj))]
theorem Bv {g g':Nat->Nat}:∀{l:List Nat},(∀j∈l,g j=g' j)->qM g l=qM g' l
 | [],_=>rfl
 | j :: l,h=>by
  rw[qM,qM,h j (List.mem_cons_self ..),Bv (l:=l) (fun j hj=>h j (List.mem_cons_of_mem _ hj))]
theorem T4 {rs:List Rl}{ns:List Nd}{S:Nat->Bool}{rk:Nat->Nat}(hW:Wf ns):Ut (qH rs ns S rk) ns.length:=fun i hi g g' h=>by
 have hl:=(be hW hi).low
 unfold qH
 split
 ·rfl
 ·split
  ·exact Bw (fun j hj=>h j (hl j hj))
  ·exact Bv (fun j hj=>h j (hl j hj))
theorem RD {rs:List Rl}{ns:List Nd}{S:Nat->Bool}{w0:Nat->Nat}(hW:Wf ns):Ut (bH rs ns S w0) ns.length:=fun i hi g g' h=>by
 have hl:=(be hW hi).low
 have:=kI (l:=(ap ns i).subs) (fun j hj=>h j (hl j hj))
 unfold bH
 rw[this]
theorem Rx {rs:List Rl}{ns:List Nd}{w:Nat->Nat}(hW:Wf ns):Ut (aH rs ns w) ns.length:=fun i hi g g' h=>by
 have hl:=(be hW hi).low
 have:=kI (l:=(ap ns i).subs) (fun j hj=>h j (hl j hj))
 unfold aH
 rw[this]
def qE (rs:List Rl)(ns:List Nd)(S:Nat->Bool)(rk:Nat->Nat)(i:Nat):Nat:=fd (qH rs ns S rk) ns.length i
def bE (rs:List Rl)(ns:List Nd)(S:Nat->Bool)(w0:Nat->Nat)(i:Nat):Nat:=fd (bH rs ns S w0) ns.length i
def aE (rs:List Rl)(ns:List Nd)(w:Nat->Nat)(i:Nat):Nat:=fd (aH rs ns w) ns.length i
theorem xK {rs:List Rl}{ns:List Nd}{S:Nat->Bool}{rk:Nat->Nat}(hW:Wf ns){i:Nat}(hi:i<ns.length):qE rs ns S rk i=qH rs ns S rk i (qE rs ns S rk):=EC (T4 hW) hi
theorem nZ {rs:List Rl}{ns:List Nd}{S:Nat->Bool}{w0:Nat->Nat}(hW:Wf ns){i:Nat}(hi:i<ns.length):bE rs ns S w0 i=bH rs ns S w0 i (bE rs ns S w0):=EC (RD hW) hi
theorem zT {rs:List Rl}{ns:List Nd}{w:Nat->Nat}(hW:Wf ns){i:Nat}(hi:i<ns.length):aE rs ns w i=aH rs ns w i (aE rs ns w):=EC (Rx hW) hi
theorem QM {rs:List Rl}{ns:List Nd}{S:Nat->Bool}{rk:Nat->Nat}(hW:Wf ns):∀i q,i<ns.length->(∀r,Bg rs ns S i r->rk r<q)->qE rs ns S rk i<=q:=by
 intro i
 induction i using Nat.strongRecOn with
 | ind i ih=>
 intro q hi hb
 have hl:=(be hW hi).low
 rw[xK hW hi,qH]
 split
 ·next h3=>exact hb _ (Bg.name h3)
 next h3=>
 split
 ·next h5=>
  have key:∀(l m:List Nat),(ap ns i).subs=m++l->(∀x∈m,cE rs ns S ns.length x=true)->qS (qE rs ns S rk) (cE rs ns S ns.length) l<=q:=by
   intro l
   induction l with
   | nil=>intro m _ _;exact Nat.zero_le _
   | cons j l ihl=>
    intro m hm he
    have hj:j∈(ap ns i).subs:=by rw[hm];simp
    have h1:=ih j (hl j hj) q (by have:=hl j hj;omega) (fun r hr=>hb r (Bg.item hm h5 he hr))
    rw[qS]
    split
    ·next hc=>
     have:=ihl (m++[j]) (by rw[hm];simp) (fun x hx=>by
      rcases List.mem_append.1 hx with e | e
      ·exact he x e
      ·rw[List.mem_singleton.1 e];exact hc)
     omega
    ·exact h1
  exact key _ [] rfl (fun x hx=>absurd hx (by simp))
 ·next h5=>
  have key:∀(l:List Nat),(∀j∈l,j∈(ap ns i).subs)->qM (qE rs ns S rk) l<=q:=by
   intro l
   induction l with
   | nil=>intro _;exact Nat.zero_le _
   | cons j l ihl=>
    intro hm
    have hj:=hm j (List.mem_cons_self ..)
    have h1:=ih j (hl j hj) q (by have:=hl j hj;omega) (fun r hr=>hb r (Bg.sub hj h5 hr))
    have:=ihl (fun x hx=>hm x (List.mem_cons_of_mem _ hx))
    rw[qM];omega
  exact key _ (fun _ h=>h)
theorem Ec {rs:List Rl}{ns:List Nd}{S:Nat->Bool}{w0 w:Nat->Nat}(hW:Wf ns)(hw:∀r,w0 r<=w r):∀i,i<ns.length->bE rs ns S w0 i<=aE rs ns w i:=by
 intro i
 induction i using Nat.strongRecOn with
 | ind i ih=>
 intro hi
 have hl:=(be hW hi).low
 have hs:jg ((ap ns i).subs.map (bE rs ns S w0))<=jg ((ap ns i).subs.map (aE rs ns w)):=Mb (fun j hj=>ih j (hl j hj) (by have:=hl j hj;omega))
 rw[nZ hW hi,zT hW hi,bH,aH]
 by_cases h3:(ap ns i).kind=3
 ·rw[if_pos h3,if_pos h3];exact hw _
 rw[if_neg h3,if_neg h3]
 by_cases h4:(ap ns i).kind=4
 ·rw[if_pos h4,if_pos (.inl h4)];exact hs
 rw[if_neg h4]
 by_cases h5:(ap ns i).kind=5
 ·have hc:(ap ns i).kind=4\/(ap ns i).kind=5\/(ap ns i).kind=6:=.inr (.inl h5)
  rw[if_pos h5,if_pos hc]
  split
  ·exact hs
  ·exact Nat.zero_le _
 rw[if_neg h5]
 by_cases h6:(ap ns i).kind=6
 ·rw[if_pos h6,if_pos (.inr (.inr h6))];exact hs
 rw[if_neg h6];exact Nat.zero_le _
def lu (ns:List Nd)(k:Nat):Bool:=decide ((ap ns k).kind=7\/(ap ns k).kind=8)
def lP (ns:List Nd)(k:Nat):Nat:=(ap ns k).subs.getD 0 0
def xT (rs:List Rl)(ns:List Nd)(w:Nat->Nat):Nat:=
 cx (fun r=>aE rs ns w (cL rs r)) rs.length+cx (fun k=>if lu ns k then aE rs ns w (lP ns k) else 0) ns.length
def yT (rs:List Rl)(ns:List Nd)(S:Nat->Bool)(rk w:Nat->Nat)(q n:Nat):Nat:=
 cx (fun r=>if rk r<q then aE rs ns w (cL rs r) else 0) rs.length +
 cx (fun k=>if lu ns k=true/\(qE rs ns S rk k<q\/(qE rs ns S rk k=q/\k<n)) then aE rs ns w (lP ns k) else 0) ns.length
section
variable {rs:List Rl} {ns:List Nd} {S:Nat->Bool} {rk w:Nat->Nat}
theorem Ul (q n:Nat):yT rs ns S rk w q n<=xT rs ns w:=by
 unfold yT xT
 refine Nat.add_le_add (gL _ (fun i _=>?_)) (gL _ (fun i _=>?_))
 ·split
  ·exact Nat.le_refl _
  ·exact Nat.zero_le _
 ·split
  ·next h=>rw[if_pos h.1];exact Nat.le_refl _
  ·exact Nat.zero_le _
theorem nM {q n q' n':Nat}(hq:q<=q')(hn:q=q'->n<=n'):yT rs ns S rk w q n<=yT rs ns S rk w q' n':=by
 unfold yT
 refine Nat.add_le_add (gL _ (fun i _=>?_)) (gL _ (fun i _=>?_))
 ·split
  ·next h=>rw[if_pos (by omega)];exact Nat.le_refl _
  ·exact Nat.zero_le _
 ·split
  ·next h=>
   rw[if_pos ⟨h.1,by
    by_cases e:q=q'
    ·have:=hn e
     rcases h.2 with x | x
     ·exact .inl (by omega)
     ·exact .inr (by omega)
    ·exact .inl (by omega)⟩]
   exact Nat.le_refl _
  ·exact Nat.zero_le _
theorem FV {r:Nat}(hr:r<rs.length)(n n':Nat):yT rs ns S rk w (rk r) n+aE rs ns w (cL rs r)<=yT rs ns S rk w (rk r+1) n':=by
 unfold yT
 have h1:=ve (f:=fun x=>if rk x<rk r then aE rs ns w (cL rs x) else 0) (g:=fun x=>if rk x<rk r+1 then aE rs ns w (cL rs x) else 0) (j:=r) (c:=aE rs ns w (cL rs r)) (by simp) rs.length hr (fun i _=>by
  try dsimp only
  split
  ·next h=>rw[if_pos (by omega)];exact Nat.le_refl _
  ·exact Nat.zero_le _)
 have h2:=gL (f:=fun k=>if lu ns k=true/\(qE rs ns S rk k<rk r\/(qE rs ns S rk k=rk r/\k<n)) then aE rs ns w (lP ns k) else 0) (g:=fun k=>if lu ns k=true/\(qE rs ns S rk k<rk r+1\/(qE rs ns S rk k=rk r+1/\k<n')) then aE rs ns w (lP ns k) else 0) ns.length (fun i _=>by
  try dsimp only
  split
  ·next h=>rw[if_pos ⟨h.1,.inl (by omega)⟩];exact Nat.le_refl _
  ·exact Nat.zero_le _)
 omega
theorem Uk {k:Nat}(hk:k<ns.length)(hr:lu ns k=true):yT rs ns S rk w (qE rs ns S rk k) k+aE rs ns w (lP ns k)<=yT rs ns S rk w (qE rs ns S rk k) (k+1):=by
 unfold yT
 have h2:=ve (f:=fun x=>if lu ns x=true/\(qE rs ns S rk x<qE rs ns S rk k\/(qE rs ns S rk x=qE rs ns S rk k/\x<k)) then aE rs ns w (lP ns x) else 0) (g:=fun x=>if lu ns x=true/\(qE rs ns S rk x<qE rs ns S rk k\/(qE rs ns S rk x=qE rs ns S rk k/\x<k+1)) then aE rs ns w (lP ns x) else 0) (j:=k) (c:=aE rs ns w (lP ns k)) (by simp[hr]) ns.length hk (fun i _=>by
  try dsimp only
  split
  ·next h=>rw[if_pos ⟨h.1,by omega⟩];exact Nat.le_refl _
  ·exact Nat.zero_le _)
 omega
end
theorem Fj {a u t X:Nat}(h1:a<=u)(h2:u<=t):(t-a)*X=(u-a)*X+(t-u)*X:=by
 rw[<-Nat.add_mul];congr 1;omega
theorem uO {a u t X:Nat}(h1:a<u)(h2:u<=t):(t-a-1)*X=(u-a-1)*X+(t-u)*X:=by
 rw[<-Nat.add_mul];congr 1;omega
theorem lm {a t X:Nat}(h:a<t):X+(t-a-1)*X=(t-a)*X:=by
 have:t-a=(t-a-1)+1:=by omega
 conv=>rhs;rw[this,Nat.add_mul,Nat.one_mul]
 omega
structure Zm (rs:List Rl)(ns:List Nd)(S:Nat->Bool)(rk w0 w:Nat->Nat):Prop where
 he:gD rs ns S
 rk:∀r r',r<rs.length->Bg rs ns S (cL rs r) r'->rk r'<rk r
 le:∀r,w0 r<=w r
 one:∀r,1<=w r
 up:∀r,r<rs.length->S r=true->1+bE rs ns S w0 (cL rs r)<=w0 r
section
variable {b:Nat->Nat} {len:Nat} {rs:List Rl} {ns:List Nd} {S:Nat->Bool} {rk w0 w:Nat->Nat}
def VS (rs:List Rl)(ns:List Nd)(w:Nat->Nat)(o:Ot)(i a t:Nat):Prop:=o.tr.length<=aE rs ns w i+(t-a)*xT rs ns w
structure Nr (rs:List Rl)(ns:List Nd)(S:Nat->Bool)(rk w0 w:Nat->Nat)(o:Ot)(i a t:Nat):Prop where
 emp:t=a->o.tr.length<=bE rs ns S w0 i
 full:a<t->o.tr.length<=aE rs ns w i+yT rs ns S rk w (qE rs ns S rk i) (i+1)+(t-a-1)*xT rs ns w
theorem Nr.far (hT:Zm rs ns S rk w0 w){o:Ot}{i a t:Nat}(hi:i<ns.length)(ha:a<=t)(h:Nr rs ns S rk w0 w o i a t):VS rs ns w o i a t:=by
 unfold VS
 by_cases e:t=a
 ·have h1:=h.emp e
  have h2:=Ec (rs:=rs) (S:=S) hT.he.wf.wf hT.le i hi
  omega
 ·have h1:=h.full (by omega)
  have h2:=Ul (rs:=rs) (ns:=ns) (S:=S) (rk:=rk) (w:=w) (qE rs ns S rk i) (i+1)
  have h3:=lm (X:=xT rs ns w) (show a<t by omega)
  omega
theorem L9 {step:Nat->Nat->Option Ot}:∀l a o t,(∀j∈l,∀a o u,a<=len->step j a=some o->o.to=some u->a<=u/\u<=len/\VS rs ns w o j a u)->a<=len->iE step l a=some o->o.to=some t->a<=t/\t<=len/\o.tr.length<=jg (l.map (aE rs ns w))+(t-a)*xT rs ns w
 | [],a,o,t,_,ha,h,ht=>by
  rw[iE]at h
  cases h
  cases ht
  simp[jg,ha]
 | j :: l,a,o,t,hs,ha,h,ht=>by
  rw[iE]at h
  cases hx:step j a with
  | none=>rw[hx]at h;cases h
  | some p=>
   rw[hx]at h
   simp only at h
   cases hp:p.to with
   | none=>rw[hp]at h;cases h;cases ht
   | some u=>
    rw[hp]at h
    simp only at h
    cases hl:iE step l u with
    | none=>rw[hl]at h;cases h
    | some p2=>
     rw[hl]at h
     simp only[Option.map_some,Option.some.injEq]at h
     subst h
     have sq:p2.to=some t:=ht
     obtain⟨h1,h2,h3⟩:=hs j (List.mem_cons_self ..) a p u ha hx hp
     obtain⟨h4,h5,h6⟩:=L9 l u p2 t (fun j hj=>hs j (List.mem_cons_of_mem _ hj)) h2 hl sq
     refine⟨by omega,h5,?_⟩
     have e:(if p2.to.isSome=true then p.tr++p2.tr else [])=p.tr++p2.tr:=by rw[sq];rfl
     show (if p2.to.isSome=true then p.tr++p2.tr else []).length<=_
     rw[e,List.length_append,Fj h1 h4]
     simp only[List.map_cons,jg]
     unfold VS at h3
     omega
theorem FO {step:Nat->Nat->Option Ot}{Y q:Nat}:∀l a o t,(∀j∈l,∀a o u,a<=len->step j a=some o->o.to=some u->a<=u/\u<=len/\(u=a->cE rs ns S ns.length j=true)/\VS rs ns w o j a u)->
  (∀j∈l,∀o u,step j a=some o->o.to=some u->Nr rs ns S rk w0 w o j a u)->(∀j∈l,bE rs ns S w0 j<=aE rs ns w j)->(∀j∈l,qE rs ns S rk j<=q->yT rs ns S rk w (qE rs ns S rk j) (j+1)<=Y)->qS (qE rs ns S rk) (cE rs ns S ns.length) l<=q->
  a<=len->iE step l a=some o->o.to=some t->(t=a->l.all (cE rs ns S ns.length)=true/\o.tr.length<=jg (l.map (bE rs ns S w0)))/\(a<t->o.tr.length<=jg (l.map (aE rs ns w))+Y+(t-a-1)*xT rs ns w)
 | [],a,o,t,_,_,_,_,_,ha,h,ht=>by
  rw[iE]at h
  cases h
  cases ht
  simp
 | j :: l,a,o,t,hs,hn,hb,hY,hq,ha,h,ht=>by
  rw[iE]at h
  cases hx:step j a with
  | none=>rw[hx]at h;cases h
  | some p=>
   rw[hx]at h
   simp only at h
   cases hp:p.to with
   | none=>rw[hp]at h;cases h;cases ht
   | some u=>
    rw[hp]at h
    simp only at h
    cases hl:iE step l u with
    | none=>rw[hl]at h;cases h
    | some p2=>
     rw[hl]at h
     simp only[Option.map_some,Option.some.injEq]at h
     subst h
     have sq:p2.to=some t:=ht
     obtain⟨h1,h2,h3,h7⟩:=hs j (List.mem_cons_self ..) a p u ha hx hp
     have OE:=hn j (List.mem_cons_self ..) p u hx hp
     have zI:=hb j (List.mem_cons_self ..)
     obtain⟨h4,h5,h6⟩:=L9 (len:=len) (rs:=rs) (ns:=ns) (w:=w) l u p2 t (fun j hj a o u h8 h9 Ih=>by
      obtain⟨x,y,_,z⟩:=hs j (List.mem_cons_of_mem _ hj) a o u h8 h9 Ih
      exact⟨x,y,z⟩) h2 hl sq
     have e:(if p2.to.isSome=true then p.tr++p2.tr else [])=p.tr++p2.tr:=by rw[sq];rfl
     show (t=a->_/\(if p2.to.isSome=true then p.tr++p2.tr else []).length<=_)/\(a<t->(if p2.to.isSome=true then p.tr++p2.tr else []).length<=_)
     rw[e,List.length_append]
     simp only[List.map_cons,jg,List.all_cons]
     by_cases hu:u=a
     ·subst hu
      have hc:=h3 rfl
      have h8:=OE.emp rfl
      rw[qS,if_pos hc]at hq
      obtain⟨i1,i2⟩:=FO l u p2 t (fun j hj=>hs j (List.mem_cons_of_mem _ hj)) (fun j hj=>hn j (List.mem_cons_of_mem _ hj)) (fun j hj=>hb j (List.mem_cons_of_mem _ hj)) (fun j hj=>hY j (List.mem_cons_of_mem _ hj)) (by omega) ha hl sq
      refine⟨fun x=>?_,fun x=>?_⟩
      ·obtain⟨k1,k2⟩:=i1 x
       rw[hc,k1]
       exact⟨rfl,by omega⟩
      ·have:=i2 x;omega
     ·refine⟨fun x=>by omega,fun x=>?_⟩
      have h8:=OE.full (by omega)
      have h9:=hY j (List.mem_cons_self ..) (by
       rw[qS]at hq
       split at hq <;> omega)
      rw[uO (X:=xT rs ns w) (show a<u by omega) h4]
      omega
theorem DQ {step:Nat->Option Ot}(hs:∀a o u,a<=len->step a=some o->o.to=some u->a<u/\u<=len/\o.tr.length<=(u-a)*xT rs ns w):∀f a o t,a<=len->gy step f a=some o->o.to=some t->a<=t/\t<=len/\o.tr.length<=(t-a)*xT rs ns w
 | 0,a,o,t,_,h,_=>by rw[gy]at h;cases h
 | f+1,a,o,t,ha,h,ht=>by
  rw[gy]at h
  cases hx:step a with
  | none=>rw[hx]at h;cases h
  | some p=>
   rw[hx]at h
   simp only at h
   cases hp:p.to with
   | none=>rw[hp]at h;cases h;cases ht;simp[ha]
   | some u=>
    rw[hp]at h
    simp only at h
    cases hl:gy step f u with
    | none=>rw[hl]at h;cases h
    | some p2=>
     rw[hl]at h
     simp only[Option.map_some,Option.some.injEq]at h
     subst h
     have sq:p2.to=some t:=ht
     obtain⟨h1,h2,h3⟩:=hs a p u ha hx hp
     obtain⟨h4,h5,h6⟩:=DQ hs f u p2 t h2 hl sq
     refine⟨by omega,h5,?_⟩
     show (p.tr++p2.tr).length<=_
     rw[List.length_append,Fj (show a<=u by omega) h4]
     omega
end
section
variable {b:Nat->Nat} {len:Nat} {rs:List Rl} {ns:List Nd} {S:Nat->Bool} {rk w0 w:Nat->Nat}
theorem T5 (g:Nat->Nat)(x:Nat):qM g [x]=g x:=by simp[qM]
theorem DH {g:Nat->Nat}:∀{l:List Nat} {j},j∈l->g j<=qM g l
 | x :: l,j,h=>by
  rw[qM]
  rcases List.mem_cons.1 h with e | e
  ·subst e;omega
  ·have:=DH (g:=g) e;omega
theorem Ji {step:Nat->Option Ot}:∀l o t,iP step l=some o->o.to=some t->∃j∈l,∃p,step j=some p/\p.to=some t/\p.tr=o.tr
 | [],o,t,h,ht=>by rw[iP]at h;cases h;cases ht
 | j :: l,o,t,h,ht=>by
  rw[iP]at h
  cases hx:step j with
  | none=>rw[hx]at h;cases h
  | some p=>
   rw[hx]at h
   simp only at h
   split at h
   ·cases h
    exact⟨j,List.mem_cons_self ..,_,hx,ht,rfl⟩
   ·cases hl:iP step l with
    | none=>rw[hl]at h;cases h
    | some p2=>
     rw[hl]at h
     simp only[Option.map_some,Option.some.injEq]at h
     subst h
     obtain⟨j',h1,p',h2,h3,h4⟩:=Ji l p2 t hl ht
     exact⟨j',List.mem_cons_of_mem _ h1,p',h2,h3,h4⟩
theorem xH (hT:Zm rs ns S rk w0 w):∀f i a dp o t,i<ns.length->rE rs ns S ns.length i=false->a<=len->bR b len rs ns f i a dp=some o->o.to=some t->Nr rs ns S rk w0 w o i a t
 | 0,i,a,dp,o,t,_,_,_,h,_=>by rw[bR]at h;cases h
 | f+1,i,a,dp,o,t,hi,KR,ha,h,ht=>by
  have ih:=xH hT f
  have hW:=hT.he.wf.wf
  have ew:=(be hW hi).low
  have fN:=(be hW hi).kind
  have dA:=fun(g i a dp:Nat) (o:Ot) (t:Nat)=>mN (b:=b) (len:=len) hT.he.wf hT.he.nm hT.he.ls g i a dp o t
  have dL:=fun hk=>DZ hW hi hk
  have ZL:=fun j hj=>oQ hW hi KR (j:=j) hj
  have Zz:=fun j hj=>Ec (rs:=rs) (S:=S) hW hT.le j hj
  rw[bR]at h
  by_cases co:(ap ns i).kind<=2
  ·rw[if_pos co]at h
   cases h
   exact⟨fun _=>Nat.zero_le _,fun _=>Nat.zero_le _⟩
  rw[if_neg co]at h
  by_cases ff:(ap ns i).kind=3
  ·rw[if_pos ff]at h
   have hr:=gJ hT.he.nm hi ff
   have hb:bE rs ns S w0 i=w0 (dI rs (ap ns i)):=by rw[nZ hW hi,bH,if_pos ff]
   have hA:aE rs ns w i=w (dI rs (ap ns i)):=by rw[zT hW hi,aH,if_pos ff]
   have hq:qE rs ns S rk i=rk (dI rs (ap ns i))+1:=by rw[xK hW hi,qH,if_pos ff]
   generalize dI rs (ap ns i)=r at *
   cases hx:bR b len rs ns f (cL rs r) a (dp+1) with
   | none=>rw[hx]at h;cases h
   | some p=>
    rw[hx]at h
    simp only[Option.map_some,Option.some.injEq]at h
    subst h
    have hp:p.to=some t:=ht
    have th:=dy hT.he.wf hr
    have kh:=hT.he.no r hr
    unfold ko at kh
    rw[Bool.or_eq_false_iff]at kh
    have h1:=ih (cL rs r) a (dp+1) p t th kh.2 ha hx hp
    have h2:=dA f (cL rs r) a (dp+1) p t th ha hx hp
    have h3:=hT.he.ls.fix r hr
    have h4:=hT.one r
    have e:(match p.to with | some t=>(⟨r,a,t,dp⟩:Ie) :: p.tr | none=>[])=⟨r,a,t,dp⟩ :: p.tr:=by rw[hp]
    refine⟨fun x=>?_,fun x=>?_⟩
    ·show (match p.to with | some t=>(⟨r,a,t,dp⟩:Ie) :: p.tr | none=>[]).length<=_
     rw[e,hb,List.length_cons]
     have h5:=hT.up r hr (by rw[h3];exact h2.2.2 x)
     have h6:=h1.emp x
     omega
    ·show (match p.to with | some t=>(⟨r,a,t,dp⟩:Ie) :: p.tr | none=>[]).length<=_
     rw[e,hA,hq,List.length_cons]
     have h6:=h1.full x
     have h7:=QM (rk:=rk) hW (cL rs r) (rk r) th (hT.rk r · hr)
     have h8:=nM (rs:=rs) (ns:=ns) (S:=S) (rk:=rk) (w:=w) (n:=cL rs r+1) (n':=ns.length) h7 (fun _=>by omega)
     have h9:=FV (rs:=rs) (ns:=ns) (S:=S) (rk:=rk) (w:=w) hr ns.length (i+1)
     omega
  rw[if_neg ff]at h
  by_cases lc:(ap ns i).kind=4
  ·rw[if_pos lc]at h
   obtain⟨j,hj,p,h1,h2,h3⟩:=Ji _ _ _ h ht
   have C8:=ew j hj
   have h4:=ih j a dp p t (by omega) (ZL j hj).1 ha h1 h2
   have hb:bE rs ns S w0 j<=bE rs ns S w0 i:=by rw[nZ hW hi,bH,if_neg ff,if_pos lc];exact qh hj
   have hA:aE rs ns w j<=aE rs ns w i:=by rw[zT hW hi,aH,if_neg ff,if_pos (.inl lc)];exact qh hj
   have hq:qE rs ns S rk j<=qE rs ns S rk i:=by rw[xK hW hi,qH,if_neg ff,if_neg (by omega)];exact DH hj
   have h5:=nM (rs:=rs) (ns:=ns) (S:=S) (rk:=rk) (w:=w) (n:=j+1) (n':=i+1) hq (fun _=>by omega)
   exact⟨fun x=>by have:=h4.emp x;rw[h3]at this;omega,fun x=>by have:=h4.full x;rw[h3]at this;omega⟩
  rw[if_neg lc]at h
  by_cases pC:(ap ns i).kind=5
  ·rw[if_pos pC]at h
   have hc:(ap ns i).kind=4\/(ap ns i).kind=5\/(ap ns i).kind=6:=.inr (.inl pC)
   have hA:aE rs ns w i=jg ((ap ns i).subs.map (aE rs ns w)):=by rw[zT hW hi,aH,if_neg ff,if_pos hc]
   have hq:qE rs ns S rk i=qS (qE rs ns S rk) (cE rs ns S ns.length) (ap ns i).subs:=by rw[xK hW hi,qH,if_neg ff,if_pos pC]
   have hb:bE rs ns S w0 i=if (ap ns i).subs.all (cE rs ns S ns.length) then jg ((ap ns i).subs.map (bE rs ns S w0)) else 0:=by rw[nZ hW hi,bH,if_neg ff,if_neg lc,if_pos pC]
   have h1:=FO (len:=len) (rs:=rs) (ns:=ns) (S:=S) (rk:=rk) (w0:=w0) (w:=w) (Y:=yT rs ns S rk w (qE rs ns S rk i) (i+1)) (q:=qE rs ns S rk i) (ap ns i).subs a o t
    (fun j hj a' p u h1 h2 h3=>by
     have C8:=ew j hj
     obtain⟨x,y,z⟩:=dA f j a' dp p u (by omega) h1 h2 h3
     exact⟨x,y,z,(ih j a' dp p u (by omega) (ZL j hj).1 h1 h2 h3).far hT (by omega) x⟩)
    (fun j hj p u h2 h3=>ih j a dp p u (by have:=ew j hj;omega) (ZL j hj).1 ha h2 h3)
    (fun j hj=>Zz j (by have:=ew j hj;omega))
    (fun j hj hq=>nM hq (fun _=>by have:=ew j hj;omega))
    (by rw[hq];exact Nat.le_refl _) ha h ht
   refine⟨fun x=>?_,fun x=>?_⟩
   ·obtain⟨k1,k2⟩:=h1.1 x
    rw[hb,if_pos k1];exact k2
   ·rw[hA];exact h1.2 x
  rw[if_neg pC]at h
  obtain⟨ZK,kP⟩:=dL (by omega)
  have ZF:(ap ns i).subs.getD 0 0∈(ap ns i).subs:=by rw[ZK];simp
  obtain⟨ZJ,oh⟩:=ZL _ ZF
  by_cases ti:(ap ns i).kind=6
  ·rw[if_pos ti]at h
   have hc:(ap ns i).kind=4\/(ap ns i).kind=5\/(ap ns i).kind=6:=.inr (.inr ti)
   have hb:bE rs ns S w0 ((ap ns i).subs.getD 0 0)<=bE rs ns S w0 i:=by rw[nZ hW hi,bH,if_neg ff,if_neg lc,if_neg pC,if_pos ti];exact qh ZF
   have hA:aE rs ns w ((ap ns i).subs.getD 0 0)<=aE rs ns w i:=by rw[zT hW hi,aH,if_neg ff,if_pos hc];exact qh ZF
   have hq:qE rs ns S rk ((ap ns i).subs.getD 0 0)<=qE rs ns S rk i:=by rw[xK hW hi,qH,if_neg ff,if_neg pC];exact DH ZF
   have h5:=nM (rs:=rs) (ns:=ns) (S:=S) (rk:=rk) (w:=w) (n:=(ap ns i).subs.getD 0 0+1) (n':=i+1) hq (fun _=>by omega)
   cases hx:bR b len rs ns f ((ap ns i).subs.getD 0 0) a dp with
   | none=>rw[hx]at h;cases h
   | some p=>
    rw[hx]at h
    simp only[Option.map_some,Option.some.injEq]at h
    cases hp:p.to with
    | none=>
     rw[if_pos (by rw[hp];rfl)]at h
     subst h
     exact⟨fun _=>Nat.zero_le _,fun _=>Nat.zero_le _⟩
    | some u=>
     rw[if_neg (by rw[hp];simp)]at h
     subst h
     have h4:=ih _ a dp p t (by omega) ZJ ha hx ht
     exact⟨fun x=>by have:=h4.emp x;omega,fun x=>by have:=h4.full x;omega⟩
  rw[if_neg ti]at h
  have AY:∀k:(ap ns i).kind=7\/(ap ns i).kind=8,(∀a p u,a<=len->bR b len rs ns f ((ap ns i).subs.getD 0 0) a dp=some p->p.to=some u->a<u/\u<=len/\p.tr.length<=yT rs ns S rk w (qE rs ns S rk i) (i+1)+(u-a-1)*xT rs ns w/\p.tr.length<=(u-a)*xT rs ns w):=by
   intro hk a p u h1 h2 h3
   have hq:qE rs ns S rk ((ap ns i).subs.getD 0 0)=qE rs ns S rk i:=by rw[xK hW hi,qH,if_neg ff,if_neg pC,ZK,T5];rfl
   have wn:lu ns i=true:=by unfold lu;simpa using hk
   have h4:=ih _ a dp p u (by omega) ZJ h1 h2 h3
   obtain⟨x,y,z⟩:=dA f _ a dp p u (by omega) h1 h2 h3
   have bj:a<u:=by
    rcases Nat.lt_or_ge a u with e | e
    ·exact e
    ·have:=z (by omega);rw[oh hk]at this;cases this
   have h5:=h4.full bj
   have h6:=Uk (rs:=rs) (ns:=ns) (S:=S) (rk:=rk) (w:=w) hi wn
   have h7:=nM (rs:=rs) (ns:=ns) (S:=S) (rk:=rk) (w:=w) (q:=qE rs ns S rk ((ap ns i).subs.getD 0 0)) (q':=qE rs ns S rk i) (n:=(ap ns i).subs.getD 0 0+1) (n':=i) (by omega) (fun _=>by omega)
   have h8:=Ul (rs:=rs) (ns:=ns) (S:=S) (rk:=rk) (w:=w) (qE rs ns S rk i) (i+1)
   have h9:=lm (X:=xT rs ns w) bj
   unfold lP at h6
   exact⟨bj,y,by omega,by omega⟩
  by_cases tj:(ap ns i).kind=7
  ·rw[if_pos tj]at h
   have hr:=AY (.inl tj)
   have KS:=fun g a o t=>DQ (len:=len) (rs:=rs) (ns:=ns) (w:=w) (step:=fun a=>bR b len rs ns f ((ap ns i).subs.getD 0 0) a dp) (fun a p u h1 h2 h3=>by obtain⟨x,y,_,z⟩:=hr a p u h1 h2 h3;exact⟨x,y,z⟩) g a o t
   obtain⟨g,rfl⟩:∃g,f=g+1:=⟨f-1,by cases f with | zero=>rw[gy]at h;cases h | succ g=>rfl⟩
   rw[gy]at h
   cases hx:bR b len rs ns (g+1) ((ap ns i).subs.getD 0 0) a dp with
   | none=>simp only[hx]at h;cases h
   | some p=>
    simp only[hx]at h
    cases hp:p.to with
    | none=>
     simp only[hp]at h
     cases h
     exact⟨fun _=>Nat.zero_le _,fun _=>Nat.zero_le _⟩
    | some u=>
     simp only[hp]at h
     cases hl:gy (fun a=>bR b len rs ns (g+1) ((ap ns i).subs.getD 0 0) a dp) g u with
     | none=>rw[hl]at h;cases h
     | some p2=>
      rw[hl]at h
      simp only[Option.map_some,Option.some.injEq]at h
      subst h
      obtain⟨k1,k2,k3,k4⟩:=hr a p u ha hx hp
      obtain⟨k5,k6,k7⟩:=KS g u p2 t k2 hl ht
      refine⟨fun x=>by omega,fun x=>?_⟩
      show (p.tr++p2.tr).length<=_
      rw[List.length_append,uO (X:=xT rs ns w) k1 k5]
      omega
  rw[if_neg tj]at h
  by_cases lW:(ap ns i).kind=8
  ·rw[if_pos lW]at h
   have hr:=AY (.inr lW)
   have KS:=fun g a o t=>DQ (len:=len) (rs:=rs) (ns:=ns) (w:=w) (step:=fun a=>bR b len rs ns f ((ap ns i).subs.getD 0 0) a dp) (fun a p u h1 h2 h3=>by obtain⟨x,y,_,z⟩:=hr a p u h1 h2 h3;exact⟨x,y,z⟩) g a o t
   cases hx:bR b len rs ns f ((ap ns i).subs.getD 0 0) a dp with
   | none=>simp only[hx]at h;cases h
   | some p=>
    simp only[hx]at h
    cases hp:p.to with
    | none=>
     simp only[hp]at h
     cases h
     cases ht
    | some u=>
     simp only[hp]at h
     cases hl:gy (fun a=>bR b len rs ns f ((ap ns i).subs.getD 0 0) a dp) f u with
     | none=>rw[hl]at h;cases h
     | some p2=>
      rw[hl]at h
      simp only[Option.map_some,Option.some.injEq]at h
      subst h
      obtain⟨k1,k2,k3,k4⟩:=hr a p u ha hx hp
      obtain⟨k5,k6,k7⟩:=KS f u p2 t k2 hl ht
      refine⟨fun x=>by omega,fun x=>?_⟩
      show (p.tr++p2.tr).length<=_
      rw[List.length_append,uO (X:=xT rs ns w) k1 k5]
      omega
  rw[if_neg lW]at h
  cases hx:bR b len rs ns f ((ap ns i).subs.getD 0 0) a dp with
  | none=>rw[hx]at h;cases h
  | some p=>
   rw[hx]at h
   simp only[Option.map_some,Option.some.injEq]at h
   subst h
   exact⟨fun _=>Nat.zero_le _,fun _=>Nat.zero_le _⟩
theorem Hq (hT:Zm rs ns S rk w0 w){f r a dp:Nat}{o:Ot}{t:Nat}(hr:r<rs.length)(ha:a<=len)(h:bR b len rs ns f (cL rs r) a dp=some o)(ht:o.to=some t)(hl:len<=60):o.tr.length<=60*xT rs ns w:=by
 have hW:=hT.he.wf.wf
 have th:=dy hT.he.wf hr
 have kh:=hT.he.no r hr
 unfold ko at kh
 rw[Bool.or_eq_false_iff]at kh
 have h1:=xH hT f (cL rs r) a dp o t th kh.2 ha h ht
 obtain⟨x,y,z⟩:=mN (b:=b) (len:=len) hT.he.wf hT.he.nm hT.he.ls f (cL rs r) a dp o t th ha h ht
 have h7:=QM (rk:=rk) hW (cL rs r) (rk r) th (hT.rk r · hr)
 have h8:=nM (rs:=rs) (ns:=ns) (S:=S) (rk:=rk) (w:=w) (n:=cL rs r+1) (n':=ns.length) h7 (fun _=>by omega)
 have h9:=FV (rs:=rs) (ns:=ns) (S:=S) (rk:=rk) (w:=w) hr ns.length 0
 have Ih:=Ul (rs:=rs) (ns:=ns) (S:=S) (rk:=rk) (w:=w) (rk r+1) 0
 have h11:=Ec (rs:=rs) (S:=S) hW hT.le (cL rs r) th
 by_cases e:t=a
 ·have h2:=h1.emp e
  omega
 ·have h2:=h1.full (by omega)
  have h3:=lm (X:=xT rs ns w) (show a<t by omega)
  have h4:(t-a)*xT rs ns w<=60*xT rs ns w:=Nat.mul_le_mul_right _ (by omega)
  omega
end
section
variable {rs:List Rl} {ns:List Nd} {S:Nat->Bool} {rk:Nat->Nat}
theorem yf {P:Nat->Nat->Prop}(h0:P 0 0)(ha:∀a b c d,P a b->P c d->P (a+c) (b+d)){w0 w1:Nat->Nat}(hW:Wf ns):∀i,i<ns.length->(∀r,Bg rs ns S i r->P (w0 r) (w1 r))->P (bE rs ns S w0 i) (bE rs ns S w1 i):=by
 have KY:∀(g g':Nat->Nat) (l:List Nat),(∀j∈l,P (g j) (g' j))->P (jg (l.map g)) (jg (l.map g')):=by
  intro g g' l
  induction l with
  | nil=>intro _;exact h0
  | cons x l ih=>intro h;exact ha _ _ _ _ (h x (List.mem_cons_self ..)) (ih (fun j hj=>h j (List.mem_cons_of_mem _ hj)))
 intro i
 induction i using Nat.strongRecOn with
 | ind i ih=>
 intro hi hb
 have hl:=(be hW hi).low
 rw[nZ hW hi,nZ hW hi,bH,bH]
 by_cases h3:(ap ns i).kind=3
 ·rw[if_pos h3,if_pos h3];exact hb _ (Bg.name h3)
 rw[if_neg h3,if_neg h3]
 by_cases h4:(ap ns i).kind=4
 ·rw[if_pos h4,if_pos h4]
  exact KY _ _ _ (fun j hj=>ih j (hl j hj) (by have:=hl j hj;omega) (fun r hr=>hb r (Bg.sub hj (by omega) hr)))
 rw[if_neg h4,if_neg h4]
 by_cases h5:(ap ns i).kind=5
 ·rw[if_pos h5,if_pos h5]
  split
  ·next sN=>
   refine KY _ _ _ (fun j hj=>ih j (hl j hj) (by have:=hl j hj;omega) (fun r hr=>?_))
   obtain⟨l,m,e⟩:=List.append_of_mem hj
   exact hb r (Bg.item e h5 (fun x hx=>List.all_eq_true.1 sN x (by rw[e];simp[hx])) hr)
  ·exact h0
 rw[if_neg h5,if_neg h5]
 by_cases h6:(ap ns i).kind=6
 ·rw[if_pos h6,if_pos h6]
  exact KY _ _ _ (fun j hj=>ih j (hl j hj) (by have:=hl j hj;omega) (fun r hr=>hb r (Bg.sub hj (by omega) hr)))
 rw[if_neg h6,if_neg h6]
 exact h0
def wF (rs:List Rl)(ns:List Nd)(S:Nat->Bool):Nat->Nat->Nat
 | 0,_=>0
 | n+1,r=>if S r then 1+bE rs ns S (wF rs ns S n) (cL rs r) else 0
theorem zA (hE:gD rs ns S)(nS:∀r r',r<rs.length->Bg rs ns S (cL rs r) r'->rk r'<rk r):∀n r,r<rs.length->rk r<n->wF rs ns S n r=wF rs ns S (n+1) r
 | 0,r,_,h=>absurd h (by omega)
 | n+1,r,hr,h=>by
  rw[wF,wF]
  have th:=dy hE.wf hr
  have:bE rs ns S (wF rs ns S n) (cL rs r)=bE rs ns S (wF rs ns S (n+1)) (cL rs r):=
   yf (P:=Eq) rfl (fun _ _ _ _ h k=>by rw[h,k]) hE.wf.wf _ th (fun r' hb=>zA hE nS n r' (hb.lt hE.wf.wf hE.nm th) (by have:=nS r r' hr hb;omega))
  rw[this]
def w1 (rs:List Rl)(ns:List Nd)(S:Nat->Bool)(r:Nat):Nat:=max 1 (wF rs ns S 9 r)
theorem Uj (hE:gD rs ns S):Zm rs ns S (l7 (m0 rs ns S)) (wF rs ns S 9) (w1 rs ns S):=by
 refine⟨hE,fun r r' hr hb=>hE.rank hr hb,fun r=>by unfold w1;omega,fun r=>by unfold w1;omega,fun r hr hs=>?_⟩
 have h1:=zA hE (fun r r' hr hb=>hE.rank hr hb) 9 r hr (by have:=uX (m0 rs ns S) r;omega)
 rw[h1,wF,if_pos hs]
 exact Nat.le_refl _
end
def Uw:Nat->List (Nat × Nat)->Nat
 | _,[]=>0
 | k,p :: l=>max (k*(1+p.1)) (Uw (k+1) l)
def Ux:Nat->List (Nat × Nat)->Nat
 | _,[]=>0
 | k,p :: l=>max (k*(1+p.1)+p.2) (Ux (k+1) l)
def DK:List (Nat × Nat)->List (Nat × Nat)->List (Nat × Nat)
 | [],_=>[]
 | p :: l,pre=>(max p.1 (Uw 0 (p :: pre)),Ux 0 (p :: pre)) :: DK l (p :: pre)
def BQ:Nat->List (Nat × Nat)
 | 0=>(List.range 201).map (fun s=>(s,s))
 | k+1=>DK (BQ k) []
def tA (k s:Nat):Nat:=((BQ k).getD s (0,0)).1
def tV (k s:Nat):Nat:=((BQ k).getD s (0,0)).2
theorem I4:∀(l:List (Nat × Nat)) (k j:Nat),j<l.length->(k+j)*(1+(l.getD j (0,0)).1)<=Uw k l
 | [],k,j,h=>absurd h (by simp)
 | p :: l,k,0,_=>by rw[Uw];simp only[List.getD_cons_zero,Nat.add_zero];omega
 | p :: l,k,j+1,h=>by
  have:=I4 l (k+1) j (by simpa using h)
  rw[Uw,List.getD_cons_succ]
  have e:k+(j+1)=k+1+j:=by omega
  rw[e];omega
theorem I5:∀(l:List (Nat × Nat)) (k j:Nat),j<l.length->(k+j)*(1+(l.getD j (0,0)).1)+(l.getD j (0,0)).2<=Ux k l
 | [],k,j,h=>absurd h (by simp)
 | p :: l,k,0,_=>by rw[Ux];simp only[List.getD_cons_zero,Nat.add_zero];omega
 | p :: l,k,j+1,h=>by
  have:=I5 l (k+1) j (by simpa using h)
  rw[Ux,List.getD_cons_succ]
  have e:k+(j+1)=k+1+j:=by omega
  rw[e];omega
theorem By:∀l pre,(DK l pre).length=l.length
 | [],_=>rfl
 | p :: l,pre=>by rw[DK,List.length_cons,List.length_cons,By l]
theorem p9:∀(l pre:List (Nat × Nat)) (s:Nat),s<l.length->(DK l pre).getD s (0,0)=(max (l.getD s (0,0)).1 (Uw 0 ((l.take (s+1)).reverse++pre)),Ux 0 ((l.take (s+1)).reverse++pre))
 | [],_,s,h=>absurd h (by simp)
 | p :: l,pre,0,_=>by simp[DK]
 | p :: l,pre,s+1,h=>by
  rw[DK,List.getD_cons_succ,p9 l (p :: pre) s (by simpa using h),List.getD_cons_succ,List.take_succ_cons,List.reverse_cons,List.append_assoc]
  rfl
theorem nH:∀k,(BQ k).length=201
 | 0=>by simp[BQ]
 | k+1=>by rw[BQ,By,nH k]
theorem Fw (l:List (Nat × Nat)){s j:Nat}(hs:s<l.length)(hj:j<=s):((l.take (s+1)).reverse++[]).getD j (0,0)=l.getD (s-j) (0,0):=by
 simp only[List.append_nil,List.getD_eq_getElem?_getD]
 rw[List.getElem?_reverse (by simp;omega),List.length_take,List.getElem?_take]
 rw[if_pos (by omega)]
 congr 2
 omega
theorem YP (k:Nat){s j:Nat}(hs:s<=200)(hj:j<=s):j*(1+tA k (s-j))<=tA (k+1) s:=by
 have hl:=nH k
 have h1:=I4 (((BQ k).take (s+1)).reverse++[]) 0 j (by simp;omega)
 rw[Fw _ (by omega) hj,Nat.zero_add]at h1
 unfold tA
 rw[BQ,p9 _ _ _ (by omega)]
 show _<=max _ _
 omega
theorem Pv (k:Nat){s:Nat}(hs:s<=200):tA k s<=tA (k+1) s:=by
 have hl:=nH k
 unfold tA
 rw[BQ,p9 _ _ _ (by omega)]
 show _<=max _ _
 omega
theorem QT (k:Nat){s j:Nat}(hs:s<=200)(hj:j<=s):j*(1+tA k (s-j))+tV k (s-j)<=tV (k+1) s:=by
 have hl:=nH k
 have h1:=I5 (((BQ k).take (s+1)).reverse++[]) 0 j (by simp;omega)
 rw[Fw _ (by omega) hj,Nat.zero_add]at h1
 unfold tV tA
 rw[BQ,p9 _ _ _ (by omega)]
 exact h1
theorem QR:∀k s,s<=200->s<=tA k s
 | 0,s,h=>by
  have:s<201:=by omega
  simp[tA,BQ,List.getD_eq_getElem?_getD,List.getElem?_range,this]
 | k+1,s,h=>Nat.le_trans (QR k s h) (Pv k h)
theorem QS:∀k s,s<=200->s<=tV k s
 | 0,s,h=>by
  have:s<201:=by omega
  simp[tV,BQ,List.getD_eq_getElem?_getD,List.getElem?_range,this]
 | k+1,s,h=>by
  have:=QS k s h
  have:=QT k h (Nat.zero_le s)
  simp only[Nat.zero_mul,Nat.sub_zero,Nat.zero_add]at this
  omega
theorem qb3:((BQ 7).take 192).all (fun p=>decide (p.2<=115077978666))=true:=by decide +kernel
theorem qb2:(BQ 6).all (fun p=>decide (p.2<=16697542131))=true:=by decide +kernel
theorem tV7 {s:Nat}(h:s<=191):tV 7 s<=115077978666:=by
 have hl:=nH 7
 have h1:=List.all_eq_true.1 qb3 ((BQ 7).getD s (0,0)) (by
  rw[List.getD_eq_getElem?_getD,List.getElem?_eq_getElem (by omega)]
  simp only[Option.getD_some]
  rw[<-List.getElem_take (j:=192) (h:=by simp;omega)]
  exact List.getElem_mem _)
 simpa [tV] using h1
theorem tV6 {s:Nat}(h:s<=200):tV 6 s<=16697542131:=by
 have hl:=nH 6
 have h1:=List.all_eq_true.1 qb2 ((BQ 6).getD s (0,0)) (by
  rw[List.getD_eq_getElem?_getD,List.getElem?_eq_getElem (by omega)]
  simp only[Option.getD_some]
  exact List.getElem_mem _)
 simpa [tV] using h1
def eC (β:Nat->Nat):Nat->Nat
 | 0=>1
 | q+1=>max (eC β q) (1+β q*eC β q)
theorem yp (β:Nat->Nat):∀q,1<=eC β q
 | 0=>Nat.le_refl _
 | q+1=>by rw[eC];have:=yp β q;omega
theorem yo (β:Nat->Nat){q q':Nat}(h:q<=q'):eC β q<=eC β q':=by
 induction h with
 | refl=>exact Nat.le_refl _
 | step _ ih=>rw[eC];omega
def sC (β:Nat->Nat)(m:Nat):Nat->Nat->Nat
 | 0,q=>m*eC β q
 | d+1,q=>β q*eC β q+sC β m d (q+1)
def lC (β:Nat->Nat)(m:Nat):Nat->Nat->Nat
 | 0,_=>m
 | d+1,q=>β q+lC β m d (q+1)
def nC (β:Nat->Nat):Nat->Nat->Nat
 | 0,_=>0
 | d+1,q=>(if β q=0 then 0 else 1)+nC β d (q+1)
theorem FI (β:Nat->Nat)(m:Nat):∀d q k,nC β d q<=k->lC β m d q<=200->sC β m d q+tA k (lC β m d q)<=tA k (lC β m d q)*eC β q+tV k (lC β m d q)
 | 0,q,k,_,hl=>by
  rw[lC]at hl
  rw[sC,lC]
  have h1:=QR k m hl
  have h2:=QS k m hl
  have h3:=yp β q
  obtain⟨e,he⟩:∃e,eC β q=e+1:=⟨eC β q-1,by omega⟩
  rw[he,Nat.mul_add,Nat.mul_add]
  have h4:m*e<=tA k m*e:=Nat.mul_le_mul_right _ h1
  omega
 | d+1,q,k,hn,hl=>by
  rw[nC]at hn
  rw[lC]at hl
  rw[sC,lC]
  have h3:=yp β q
  by_cases hb:β q=0
  ·rw[if_pos hb]at hn
   have ih:=FI β m d (q+1) k (by omega) (by omega)
   rw[hb,Nat.zero_mul,Nat.zero_add,Nat.zero_add]
   have he:eC β (q+1)=eC β q:=by rw[eC,hb];omega
   rw[he]at ih
   exact ih
  ·rw[if_neg hb]at hn
   obtain⟨k,rfl⟩:∃k',k=k'+1:=⟨k-1,by omega⟩
   have ih:=FI β m d (q+1) k (by omega) (by omega)
   have h1:β q*eC β q ≥ eC β q:=Nat.le_mul_of_pos_left _ (by omega)
   have he:eC β (q+1)=1+β q*eC β q:=by rw[eC];omega
   rw[he]at ih
   have h5:=YP k (s:=β q+lC β m d (q+1)) (j:=β q) (by omega) (by omega)
   have h6:=QT k (s:=β q+lC β m d (q+1)) (j:=β q) (by omega) (by omega)
   rw[Nat.add_sub_cancel_left]at h5 h6
   generalize tA (k+1) (β q+lC β m d (q+1))=A1 at *
   generalize tV (k+1) (β q+lC β m d (q+1))=V1 at *
   generalize tA k (lC β m d (q+1))=A0 at *
   generalize tV k (lC β m d (q+1))=V0 at *
   generalize sC β m d (q+1)=s at *
   obtain⟨e,hee⟩:∃e,eC β q=e+1:=⟨eC β q-1,by omega⟩
   rw[hee]at ih ⊢
   generalize β q=B at *
   have h7:B*(1+A0)*e<=A1*e:=Nat.mul_le_mul_right _ h5
   have e1:A0*(1+B*(e+1))=A0+A0*B*e+A0*B:=by rw[Nat.mul_add,Nat.mul_one,Nat.mul_add,Nat.mul_one,Nat.mul_add,Nat.mul_assoc];omega
   have e2:B*(1+A0)*e=B*e+A0*B*e:=by rw[Nat.mul_add,Nat.mul_one,Nat.add_mul,Nat.mul_comm B A0]
   have e3:B*(1+A0)=B+A0*B:=by rw[Nat.mul_add,Nat.mul_one,Nat.mul_comm B A0]
   have e4:B*(e+1)=B*e+B:=by rw[Nat.mul_add,Nat.mul_one]
   have e5:A1*(e+1)=A1*e+A1:=by rw[Nat.mul_add,Nat.mul_one]
   rw[e1]at ih
   rw[e2]at h7
   rw[e3]at h5 h6
   rw[e4,e5]
   omega
theorem qc (f g:Nat->Nat):∀n,cx (fun i=>f i+g i) n=cx f n+cx g n
 | 0=>rfl
 | n+1=>by simp only[cx];rw[qc f g n];omega
theorem qe (f:Nat->Nat)(c:Nat):∀n,cx (fun i=>c*f i) n=c*cx f n
 | 0=>rfl
 | n+1=>by simp only[cx];rw[qe f c n,Nat.mul_add]
theorem eB {f g:Nat->Nat}:∀n,(∀i,i<n->f i=g i)->cx f n=cx g n
 | 0,_=>rfl
 | n+1,h=>by simp only[cx];rw[eB n (fun i hi=>h i (by omega)),h n (by omega)]
theorem nG:∀n,cx (fun _=>0) n=0
 | 0=>rfl
 | n+1=>by simp only[cx];rw[nG n]
theorem qd {f:Nat->Nat}{j:Nat}:∀n,j<n->f j<=cx f n
 | 0,h=>absurd h (by omega)
 | n+1,h=>by
  simp only[cx]
  by_cases e:j=n
  ·subst e;omega
  ·have:=qd (f:=f) n (show j<n by omega);omega
theorem tD (k f:Nat->Nat)(n:Nat):∀Q,cx (fun q=>cx (fun r=>if k r=q then f r else 0) n) Q=cx (fun r=>if k r<Q then f r else 0) n
 | 0=>by simp only[cx,Nat.not_lt_zero,if_false];rw[nG]
 | Q+1=>by
  simp only[cx]
  rw[tD k f n Q,<-qc]
  apply eB
  intro r _
  by_cases h1:k r<Q
  ·rw[if_pos h1,if_neg (by omega),if_pos (by omega)];omega
  ·by_cases h2:k r=Q
   ·rw[if_neg h1,if_pos h2,if_pos (by omega)];omega
   ·rw[if_neg h1,if_neg h2,if_neg (by omega)]
section
variable {rs:List Rl} {ns:List Nd} {S:Nat->Bool}
def xI (rs:List Rl)(ns:List Nd)(v:Nat->Nat):Nat:=cx (fun i=>if (ap ns i).kind=3 then v (dI rs (ap ns i)) else 0) ns.length
theorem RC {u v:Nat->Nat}(hW:Wf ns):∀i,i<ns.length->bE rs ns S (fun r=>u r+v r) i=bE rs ns S u i+bE rs ns S v i:=by
 have KY:∀(g g1 g2:Nat->Nat) (l:List Nat),(∀j∈l,g j=g1 j+g2 j)->jg (l.map g)=jg (l.map g1)+jg (l.map g2):=by
  intro g g1 g2 l
  induction l with
  | nil=>intro _;rfl
  | cons x l ih=>
   intro h
   have h1:=h x (List.mem_cons_self ..)
   have h2:=ih (fun j hj=>h j (List.mem_cons_of_mem _ hj))
   simp only[List.map_cons,jg];omega
 intro i
 induction i using Nat.strongRecOn with
 | ind i ih=>
 intro hi
 have hl:=(be hW hi).low
 have hs:=KY _ _ _ (ap ns i).subs (fun j hj=>ih j (hl j hj) (by have:=hl j hj;omega))
 rw[nZ hW hi,nZ hW hi,nZ hW hi,bH,bH,bH,hs]
 repeat' split
 all_goals first | rfl | omega
theorem Ed (hW:Wf ns){i:Nat}(hi:i<ns.length){u:Nat->Nat}(h:∀r,Bg rs ns S i r->u r=0):bE rs ns S u i=0:=
 yf (P:=fun a _=>a=0) (w1:=u) rfl (fun a b c d h k=>by omega) hW i hi h
theorem qbZ (hE:gD rs ns S){r:Nat}(hr:r<rs.length):l7 (m0 rs ns S) r<=7:=by
 have h8:=hE.wf.len
 have h2:=hE.no r hr
 unfold ko at h2
 rw[Bool.or_eq_false_iff]at h2
 have h3:=qW (p:=fun x=>cK (m0 rs ns S) 8 r x) (q:=fun _=>true) (x:=r) (l:=List.range 8) (fun _ _ _=>rfl) (List.mem_range.2 (by omega)) h2.1 rfl
 have h4:((List.range 8).filter (fun _=>true)).length=8:=rfl
 rw[h4]at h3
 show ((List.range 8).filter _).length<=7
 omega
end
def bC (rs:List Rl)(ns:List Nd)(S:Nat->Bool)(r:Nat):Nat:=bE rs ns S (fun _=>1) (cL rs r)
def cB (rs:List Rl)(ns:List Nd)(S:Nat->Bool)(q:Nat):Nat:=cx (fun r=>if l7 (m0 rs ns S) r=q then bC rs ns S r else 0) rs.length
section
variable {rs:List Rl} {ns:List Nd} {S:Nat->Bool}
theorem PY (hE:gD rs ns S){r:Nat}(hr:r<rs.length){u:Nat->Nat}{e:Nat}(h:∀r',Bg rs ns S (cL rs r) r'->u r'<=e):bE rs ns S u (cL rs r)<=bC rs ns S r*e:=
 yf (P:=fun a b=>a<=b*e) (Nat.zero_le _) (fun a b c d h k=>by rw[Nat.add_mul];omega) hE.wf.wf _ (dy hE.wf hr) (fun r' hb=>by have:=h r' hb;omega)
theorem Mr (hE:gD rs ns S):∀n r,r<rs.length->l7 (m0 rs ns S) r<n->w1 rs ns S r<=eC (cB rs ns S) (l7 (m0 rs ns S) r+1)
 | 0,r,_,h=>absurd h (by omega)
 | n+1,r,hr,h=>by
  have h1:=zA hE (fun r r' hr hb=>hE.rank hr hb) 9 r hr (by have:=uX (m0 rs ns S) r;omega)
  have th:=dy hE.wf hr
  have h0:=yp (cB rs ns S) (l7 (m0 rs ns S) r+1)
  unfold w1
  rw[h1,wF]
  split
  ·have h2:bE rs ns S (wF rs ns S 9) (cL rs r)<=bC rs ns S r*eC (cB rs ns S) (l7 (m0 rs ns S) r):=PY hE hr (fun r' hb=>by
    have bj:=hE.rank hr hb
    have h3:=Mr hE n r' (hb.lt hE.wf.wf hE.nm th) (by omega)
    have h4:=yo (cB rs ns S) (show l7 (m0 rs ns S) r'+1<=l7 (m0 rs ns S) r by omega)
    unfold w1 at h3
    omega)
   have h3:bC rs ns S r<=cB rs ns S (l7 (m0 rs ns S) r):=by
    have:=qd (f:=fun x=>if l7 (m0 rs ns S) x=l7 (m0 rs ns S) r then bC rs ns S x else 0) rs.length hr
    simp only[if_true]at this
    exact this
   have h4:bC rs ns S r*eC (cB rs ns S) (l7 (m0 rs ns S) r)<=cB rs ns S (l7 (m0 rs ns S) r)*eC (cB rs ns S) (l7 (m0 rs ns S) r):=Nat.mul_le_mul_right _ h3
   rw[eC]
   omega
  ·omega
theorem ta (hE:gD rs ns S):cB rs ns S 0=0:=by
 unfold cB
 rw[eB (g:=fun _=>0) rs.length (fun r hr=>?_),nG]
 split
 ·next h=>
  unfold bC
  exact Ed hE.wf.wf (dy hE.wf hr) (fun r' hb=>by have:=hE.rank hr hb;omega)
 ·rfl
theorem Q6 (hE:gD rs ns S)(hF:∀v,xT rs ns v<=xI rs ns v):∃m,lC (cB rs ns S) m 7 1=xI rs ns (fun _=>1)/\xT rs ns (w1 rs ns S)<=sC (cB rs ns S) m 7 1:=by
 have hW:=hE.wf.wf
 have AW:=fun r hr=>qbZ hE (r:=r) hr
 have hw:∀r,r<rs.length->w1 rs ns S r<=eC (cB rs ns S) 8:=fun r hr=>Nat.le_trans (Mr hE 9 r hr (by have:=AW r hr;omega)) (yo _ (by have:=AW r hr;omega))
 have ni:cx (bC rs ns S) rs.length=cx (cB rs ns S) 8:=by
  have h1:=tD (l7 (m0 rs ns S)) (bC rs ns S) rs.length 8
  unfold cB
  rw[h1]
  exact eB _ (fun r hr=>by rw[if_pos (by have:=AW r hr;omega)])
 have UM:∀v:Nat->Nat,cx (fun r=>bE rs ns S v (cL rs r)) rs.length<=xI rs ns v:=fun v=>by
  refine Nat.le_trans ?_ (hF v)
  unfold xT
  have:=gL (f:=fun r=>bE rs ns S v (cL rs r)) (g:=fun r=>aE rs ns v (cL rs r)) rs.length (fun r hr=>Ec hW (fun _=>Nat.le_refl _) _ (dy hE.wf hr))
  omega
 have hM:=UM (fun _=>1)
 have qci:cx (fun r=>bE rs ns S (w1 rs ns S) (cL rs r)) rs.length<=cx (fun q=>cB rs ns S q*eC (cB rs ns S) q) 8:=by
  have h1:cx (fun r=>bE rs ns S (w1 rs ns S) (cL rs r)) rs.length<=cx (fun r=>bC rs ns S r*eC (cB rs ns S) (l7 (m0 rs ns S) r)) rs.length:=gL _ (fun r hr=>PY hE hr (fun r' hb=>by
   have bj:=hE.rank hr hb
   have tt:=hb.lt hW hE.nm (dy hE.wf hr)
   exact Nat.le_trans (Mr hE 9 r' tt (by have:=AW r' tt;omega)) (yo _ (by omega))))
  have h2:=tD (l7 (m0 rs ns S)) (fun r=>bC rs ns S r*eC (cB rs ns S) (l7 (m0 rs ns S) r)) rs.length 8
  have h3:cx (fun q=>cx (fun r=>if l7 (m0 rs ns S) r=q then bC rs ns S r*eC (cB rs ns S) (l7 (m0 rs ns S) r) else 0) rs.length) 8=cx (fun q=>cB rs ns S q*eC (cB rs ns S) q) 8:=eB _ (fun q _=>by
   unfold cB
   rw[Nat.mul_comm,<-qe]
   exact eB _ (fun r _=>by
    by_cases h:l7 (m0 rs ns S) r=q
    ·rw[if_pos h,if_pos h,h,Nat.mul_comm]
    ·rw[if_neg h,if_neg h,Nat.mul_zero]))
  have h4:cx (fun r=>if l7 (m0 rs ns S) r<8 then bC rs ns S r*eC (cB rs ns S) (l7 (m0 rs ns S) r) else 0) rs.length=cx (fun r=>bC rs ns S r*eC (cB rs ns S) (l7 (m0 rs ns S) r)) rs.length:=eB _ (fun r hr=>by rw[if_pos (by have:=AW r hr;omega)])
  omega
 have hv:=UM (fun r=>eC (cB rs ns S) 8-w1 rs ns S r)
 have sl:xI rs ns (w1 rs ns S)+xI rs ns (fun r=>eC (cB rs ns S) 8-w1 rs ns S r)=eC (cB rs ns S) 8*xI rs ns (fun _=>1):=by
  unfold xI
  rw[<-qc,<-qe]
  refine eB _ (fun i hi=>?_)
  by_cases h3:(ap ns i).kind=3
  ·rw[if_pos h3,if_pos h3,if_pos h3]
   have:=hw _ (gJ hE.nm hi h3)
   show w1 rs ns S (dI rs (ap ns i))+(eC (cB rs ns S) 8-w1 rs ns S (dI rs (ap ns i)))=eC (cB rs ns S) 8*1
   omega
  ·rw[if_neg h3,if_neg h3,if_neg h3];rfl
 have hWb:eC (cB rs ns S) 8*cx (bC rs ns S) rs.length<=cx (fun r=>bE rs ns S (w1 rs ns S) (cL rs r)) rs.length+cx (fun r=>bE rs ns S (fun r=>eC (cB rs ns S) 8-w1 rs ns S r) (cL rs r)) rs.length:=by
  rw[<-qc,<-qe]
  refine gL _ (fun r hr=>?_)
  rw[<-RC hW _ (dy hE.wf hr)]
  have th:=dy hE.wf hr
  exact yf (P:=fun a b=>eC (cB rs ns S) 8*b<=a) (w0:=fun r=>w1 rs ns S r+(eC (cB rs ns S) 8-w1 rs ns S r)) (Nat.le_refl _) (fun a b c d h k=>by rw[Nat.mul_add];omega) hW _ th (fun r' _=>by omega)
 have hx:=hF (w1 rs ns S)
 obtain⟨m,hm⟩:∃m,xI rs ns (fun _=>1)=cx (cB rs ns S) 8+m:=⟨xI rs ns (fun _=>1)-cx (cB rs ns S) 8,by
  have:cx (fun r=>bE rs ns S (fun _=>1) (cL rs r)) rs.length=cx (bC rs ns S) rs.length:=rfl
  omega⟩
 refine⟨m,?_,?_⟩
 ·rw[hm]
  have h0:=ta hE
  simp only[lC,cx,Nat.reduceAdd]
  omega
 ·rw[hm,Nat.mul_add]at sl
  rw[ni]at hWb
  have h0:=ta hE
  have hc:m*eC (cB rs ns S) 8=eC (cB rs ns S) 8*m:=Nat.mul_comm _ _
  have e8:cx (fun q=>cB rs ns S q*eC (cB rs ns S) q) 8+m*eC (cB rs ns S) 8=sC (cB rs ns S) m 7 1:=by
   simp only[sC,cx,h0,Nat.zero_mul,Nat.reduceAdd]
   omega
  omega
theorem F7 (k:Nat->Nat)(n:Nat)(h:∀q,q<8->∃r,r<n/\k r=q):8<=n:=by
 have h1:=tD k (fun _=>1) n 8
 have h2:cx (fun _=>1) 8<=cx (fun q=>cx (fun r=>if k r=q then 1 else 0) n) 8:=gL _ (fun q hq=>by
  obtain⟨r,hr,hk⟩:=h q hq
  have:=qd (f:=fun r=>if k r=q then 1 else 0) n hr
  simp only[hk,if_true]at this
  exact this)
 have h3:cx (fun r=>if k r<8 then 1 else 0) n<=n:=by
  have:∀m,cx (fun r=>if k r<8 then 1 else 0) m<=m:=by
   intro m
   induction m with
   | zero=>exact Nat.le_refl _
   | succ m ih=>simp only[cx];split <;> omega
  exact this n
 have h4:cx (fun _=>1) 8=8:=rfl
 omega
theorem I6 (q:Nat)(h:cB rs ns S q≠0):∃r,r<rs.length/\l7 (m0 rs ns S) r=q/\bC rs ns S r≠0:=by
 refine Classical.byContradiction (fun hc=>h ?_)
 unfold cB
 rw[eB (g:=fun _=>0) rs.length (fun r hr=>?_),nG]
 split
 ·next hk=>
  refine Classical.byContradiction (fun hb=>hc ⟨r,hr,hk,hb⟩)
 ·rfl
theorem nC6 (hE:gD rs ns S)(hn:rs.length<=7):nC (cB rs ns S) 7 1<=6:=by
 refine Classical.byContradiction (fun hc=>?_)
 have sN:∀q,1<=q->q<8->cB rs ns S q≠0:=by
  intro q h1 h2 h0
  apply hc
  simp only[nC]
  rcases(show q=1\/q=2\/q=3\/q=4\/q=5\/q=6\/q=7 by omega) with e | e | e | e | e | e | e
  all_goals
   subst e
   simp only[h0,if_true]
   repeat' split
   all_goals omega
 have:=F7 (l7 (m0 rs ns S)) rs.length (fun q hq=>by
  by_cases e:q=0
  ·subst e
   obtain⟨r,hr,hk,hb⟩:=I6 1 (sN 1 (by omega) (by omega))
   refine Classical.byContradiction (fun kh=>hb ?_)
   unfold bC
   exact Ed hE.wf.wf (dy hE.wf hr) (fun r' jq=>absurd ⟨r',jq.lt hE.wf.wf hE.nm (dy hE.wf hr),by have:=hE.rank hr jq;omega⟩ kh)
  ·obtain⟨r,hr,hk,_⟩:=I6 q (sN q (by omega) hq)
   exact⟨r,hr,hk⟩)
 omega
theorem nC7 (β:Nat->Nat):nC β 7 1<=7:=by
 simp only[nC]
 repeat' split
 all_goals omega
theorem YY (hE:gD rs ns S)(hF:∀v,xT rs ns v<=xI rs ns v)(hM:xI rs ns (fun _=>1)<=191):xT rs ns (w1 rs ns S)<=115077978666:=by
 obtain⟨m,h1,h2⟩:=Q6 hE hF
 have h3:=FI (cB rs ns S) m 7 1 7 (nC7 _) (by omega)
 have h4:eC (cB rs ns S) 1=1:=by simp only[eC,ta hE];rfl
 rw[h4,Nat.mul_one]at h3
 have h5:=tV7 (s:=lC (cB rs ns S) m 7 1) (by omega)
 omega
theorem YX (hE:gD rs ns S)(hF:∀v,xT rs ns v<=xI rs ns v)(hM:xI rs ns (fun _=>1)<=200)(hn:rs.length<=7):xT rs ns (w1 rs ns S)<=115077978666:=by
 obtain⟨m,h1,h2⟩:=Q6 hE hF
 have h3:=FI (cB rs ns S) m 7 1 6 (nC6 hE hn) (by omega)
 have h4:eC (cB rs ns S) 1=1:=by simp only[eC,ta hE];rfl
 rw[h4,Nat.mul_one]at h3
 have h5:=tV6 (s:=lC (cB rs ns S) m 7 1) (by omega)
 omega
theorem YW (hS:∀r,r<rs.length->S r=false)(hE:gD rs ns S)(hF:∀v,xT rs ns v<=xI rs ns v)(hM:xI rs ns (fun _=>1)<=200):xT rs ns (w1 rs ns S)<=115077978666:=by
 have h1:=hF (w1 rs ns S)
 have h2:xI rs ns (w1 rs ns S)=xI rs ns (fun _=>1):=by
  unfold xI
  refine eB _ (fun i hi=>?_)
  by_cases h3:(ap ns i).kind=3
  ·rw[if_pos h3,if_pos h3]
   have:=hS _ (gJ hE.nm hi h3)
   unfold w1
   rw[wF,this]
   rfl
  ·rw[if_neg h3,if_neg h3]
 omega
end
end Go.Proofs.YtagklnaaoclmhaaGreatDoor
