import Derived.Test.YtagklnaaoclmhaaGreatDoorMnAA
set_option linter.unusedSimpArgs false
set_option linter.unusedVariables false
set_option maxRecDepth 100000
set_option maxHeartbeats 16000000
namespace Go.Proofs.YtagklnaaoclmhaaGreatDoor
open Go.RowKit
def eV (N:Nd)(q:Bool)(f:Nat->Bool):Bool:=
 if N.kind=0 then N.text.isEmpty
 else if N.kind=3 then q
 else if N.kind=6\/N.kind=7\/N.kind=9\/N.kind=10 then true
 else if N.kind=4\/N.kind=8 then N.subs.any f
 else if N.kind=5 then N.subs.all f
 else false
def dI (rs:List Rl)(N:Nd):Nat:=(dg rs N.name).getD 0
def cL (rs:List Rl)(i:Nat):Nat:=(rs.map Rl.is).getD i 0
theorem na {N:Nd}{q q':Bool}{f f':Nat->Bool}(hq:q=true->q'=true)(hf:∀j∈N.subs,f j=true->f' j=true)(h:eV N q f=true):eV N q' f'=true:=by
 unfold eV at h ⊢
 split
 ·next h0=>rw[if_pos h0]at h;exact h
 next h0=>
 rw[if_neg h0]at h
 split
 ·next h0=>rw[if_pos h0]at h;exact hq h
 next h0=>
 rw[if_neg h0]at h
 split
 ·rfl
 next h0=>
 rw[if_neg h0]at h
 split
 ·next h0=>
  rw[if_pos h0]at h
  obtain⟨j,hj,h1⟩:=List.any_eq_true.1 h
  exact List.any_eq_true.2 ⟨j,hj,hf j hj h1⟩
 next h0=>
 rw[if_neg h0]at h
 split
 ·next h0=>
  rw[if_pos h0]at h
  exact List.all_eq_true.2 fun j hj=>hf j hj (List.all_eq_true.1 h j hj)
 next h0=>
 rw[if_neg h0]at h
 exact h
theorem ph {N:Nd}{q q':Bool}{f f':Nat->Bool}(hq:N.kind=3->q=q')(hf:∀j∈N.subs,f j=f' j):eV N q f=eV N q' f':=by
 have h1:N.subs.any f=N.subs.any f':=by
  rw[Bool.eq_iff_iff,List.any_eq_true,List.any_eq_true]
  exact⟨fun⟨j,hj,h⟩=>⟨j,hj,by rw[<-hf j hj];exact h⟩,fun⟨j,hj,h⟩=>⟨j,hj,by rw[hf j hj];exact h⟩⟩
 have h2:N.subs.all f=N.subs.all f':=by
  rw[Bool.eq_iff_iff,List.all_eq_true,List.all_eq_true]
  exact⟨fun h j hj=>by rw[<-hf j hj];exact h j hj,fun h j hj=>by rw[hf j hj];exact h j hj⟩
 unfold eV
 rw[h1,h2]
 by_cases h3:N.kind=3
 ·rw[hq h3]
 ·rw[if_neg h3,if_neg h3]
theorem JB {rs:List Rl}{n:Nat}{N:Nd}{L:List Bool}{o:Bool}(hN:sD n N)(h:eV N (L.getD (cL rs (dI rs N)) false) (fun j=>L.getD j false)=true):vy rs N L o=true:=by
 unfold eV at h
 unfold vy
 split
 ·next h0=>rw[if_pos h0]at h;exact h
 next h0=>
 rw[if_neg h0]at h
 split
 ·next h0=>rw[if_pos h0]at h;exact h
 next h0=>
 rw[if_neg h0]at h
 split
 ·rfl
 next h0=>
 rw[if_neg h0]at h
 split
 ·next h8=>
  rw[if_pos (.inr h8)]at h
  obtain⟨x,hx⟩:=hN.one (by omega)
  rw[hx]at h ⊢
  simpa using h
 next h8=>
 split
 ·next h4=>
  rw[if_pos (.inl h4)]at h
  rw[h];simp
 next h4=>
 rw[if_neg (by omega)]at h
 split
 ·next h0=>rw[if_pos h0]at h;exact h
 next h0=>
 rw[if_neg h0]at h
 cases h
theorem P5 {rs:List Rl}{n:Nat}{N:Nd}{L:List Bool}{o:Bool}(hN:sD n N)(h:vy rs N L o=true):o=true\/eV N (L.getD (cL rs (dI rs N)) false) (fun j=>L.getD j false)=true:=by
 unfold vy at h
 unfold eV
 split
 ·next h0=>rw[if_pos h0]at h;exact .inr h
 next h0=>
 rw[if_neg h0]at h
 split
 ·next h0=>rw[if_pos h0]at h;exact .inr h
 next h0=>
 rw[if_neg h0]at h
 split
 ·exact .inr rfl
 next h0=>
 rw[if_neg h0]at h
 split
 ·next h48=>
  rcases h48 with h4 | h8
  ·rw[if_neg (by omega),if_pos h4]at h
   rw[Bool.or_eq_true]at h
   exact h
  ·rw[if_pos h8]at h
   obtain⟨x,hx⟩:=hN.one (by omega)
   rw[hx]at h ⊢
   right
   simpa using h
 next h48=>
 rw[if_neg (by omega),if_neg (by omega)]at h
 split
 ·next h0=>rw[if_pos h0]at h;exact .inr h
 next h0=>
 rw[if_neg h0]at h
 exact .inl h
def Le (L M:List Bool):Prop:=∀i,L.getD i false=true->M.getD i false=true
theorem Le.refl (L:List Bool):Le L L:=fun _ h=>h
theorem Le.trans {L M K:List Bool}(h:Le L M)(k:Le M K):Le L K:=fun i x=>k i (h i x)
theorem Le.antisymm:∀{L M:List Bool},L.length=M.length->Le L M->Le M L->L=M
 | [],[],_,_,_=>rfl
 | a :: L,b :: M,hl,h,k=>by
  have h0:=h 0
  have k0:=k 0
  simp at h0 k0
  have gu:a=b:=by cases a <;> cases b <;> simp_all
  subst gu
  congr 1
  exact(Le.antisymm (by simpa using hl) (fun i x=>by have:=h (i+1);simp at this x ⊢;exact this x) (fun i x=>by have:=k (i+1);simp at this x ⊢;exact this x))
def cnt (L:List Bool):Nat:=(L.filter id).length
theorem RI (L:List Bool):cnt L<=L.length:=List.length_filter_le _ _
theorem t8:∀{L M:List Bool},L.length=M.length->Le L M->cnt L<=cnt M/\(cnt L=cnt M->L=M)
 | [],[],_,_=>⟨Nat.le_refl _,fun _=>rfl⟩
 | a :: L,b :: M,hl,h=>by
  have h0:=h 0
  simp at h0
  obtain⟨h1,h2⟩:=t8 (L:=L) (M:=M) (by simpa using hl) (fun i x=>by have:=h (i+1);simp at this x ⊢;exact this x)
  unfold cnt at h1 h2 ⊢
  cases a <;> cases b <;> simp at h0 ⊢
  ·exact⟨h1,h2⟩
  ·exact⟨by omega,fun h=>by omega⟩
  ·exact⟨h1,h2⟩
def Pr (rs:List Rl)(ns:List Nd)(L:List Bool):Prop:=∀i,i<ns.length->L.getD i false=true->eV (ap ns i) (L.getD (cL rs (dI rs (ap ns i))) false) (fun j=>L.getD j false)=true
theorem be {ns:List Nd}(h:Wf ns){i:Nat}(hi:i<ns.length):sD i (ap ns i):=h i _ (by rw[bA hi];exact List.getElem?_eq_getElem hi)
theorem vh {rs:List Rl}{ns:List Nd}(hW:Wf ns):∀k L,k<=ns.length->L.length=ns.length->Pr rs ns L->Pr rs ns (rS rs ns k L)/\Le L (rS rs ns k L)
 | 0,L,_,_,h=>⟨h,Le.refl L⟩
 | k+1,L,hk,hl,h=>by
  obtain⟨h1,h2⟩:=vh hW k L (by omega) hl h
  have eI:=lx rs ns k L
  rw[rS]
  generalize rS rs ns k L=M at *
  have hN:=be hW (show k<ns.length by omega)
  have nj:Le M (M.set k (vy rs (ap ns k) M (M.getD k false))):=by
   intro i hi
   by_cases Iu:i=k
   ·subst Iu
    rw[cN (by omega)]
    exact JB hN (h1 i (by omega) hi)
   ·rw[dO Iu];exact hi
  refine⟨fun i hi ht=>?_,h2.trans nj⟩
  refine na (q:=M.getD (cL rs (dI rs (ap ns i))) false) (f:=fun j=>M.getD j false) (fun x=>nj _ x) (fun j _ x=>nj _ x) ?_
  by_cases Iu:i=k
  ·subst Iu
   rw[cN (by omega)]at ht
   rcases P5 hN ht with h3 | h3
   ·exact h1 i hi h3
   ·exact h3
  ·rw[dO Iu]at ht
   exact h1 i hi ht
theorem FR {rs:List Rl}{ns:List Nd}(hW:Wf ns)(C:Nat->Bool)(hC:∀i,i<ns.length->eV (ap ns i) (C (cL rs (dI rs (ap ns i)))) C=true->C i=true):∀k L,k<=ns.length->L.length=ns.length->(∀i,L.getD i false=true->C i=true)->∀i,(rS rs ns k L).getD i false=true->C i=true
 | 0,L,_,_,h=>h
 | k+1,L,hk,hl,h=>by
  have h1:=FR hW C hC k L (by omega) hl h
  have eI:=lx rs ns k L
  rw[rS]
  generalize rS rs ns k L=M at *
  intro i hi
  by_cases Iu:i=k
  ·subst Iu
   rw[cN (by omega)]at hi
   rcases P5 (be hW (show i<ns.length by omega)) hi with h3 | h3
   ·exact h1 i h3
   ·exact hC i (by omega) (na (fun x=>h1 _ x) (fun j _ x=>h1 _ x) h3)
  ·rw[dO Iu]at hi
   exact h1 i hi
theorem CP {rs:List Rl}{ns:List Nd}(hW:Wf ns):∀r,Pr rs ns (emp rs ns r)
 | 0=>fun i hi h=>by simp[emp,List.getD,List.getElem?_replicate,hi]at h
 | r+1=>(vh hW ns.length _ (Nat.le_refl _) (fY rs ns r) (CP hW r)).1
theorem Jz {rs:List Rl}{ns:List Nd}(hW:Wf ns)(r:Nat):Le (emp rs ns r) (emp rs ns (r+1)):=(vh hW ns.length _ (Nat.le_refl _) (fY rs ns r) (CP hW r)).2
theorem ud {rs:List Rl}{ns:List Nd}{r:Nat}(h:emp rs ns (r+1)=emp rs ns r):∀d,emp rs ns (r+d)=emp rs ns r
 | 0=>rfl
 | d+1=>by rw[<-Nat.add_assoc,emp,ud h d];exact h
theorem Ex {rs:List Rl}{ns:List Nd}(hW:Wf ns):∀r,(∃k,k<=r/\emp rs ns (k+1)=emp rs ns k)\/r+1<=cnt (emp rs ns (r+1))
 | 0=>by
  obtain⟨h1,h2⟩:=t8 (by rw[fY,fY]) (Jz (rs:=rs) hW 0)
  by_cases h:cnt (emp rs ns 0)=cnt (emp rs ns 1)
  ·exact .inl ⟨0,Nat.le_refl _,(h2 h).symm⟩
  ·right
   have h3:cnt (emp rs ns 0)<=cnt (emp rs ns 1):=h1
   show 1<=cnt (emp rs ns 1)
   omega
 | r+1=>by
  rcases Ex hW r with⟨k,hk,he⟩ | h
  ·exact .inl ⟨k,by omega,he⟩
  ·obtain⟨h1,h2⟩:=t8 (by rw[fY,fY]) (Jz (rs:=rs) hW (r+1))
   by_cases h3:cnt (emp rs ns (r+1))=cnt (emp rs ns (r+1+1))
   ·exact .inl ⟨r+1,Nat.le_refl _,(h2 h3).symm⟩
   ·right;omega
theorem zr {rs:List Rl}{ns:List Nd}(hW:Wf ns){L:List Bool}(hl:L.length=ns.length)(hP:Pr rs ns L):∀d k,k+d=ns.length->Le (rS rs ns k L) (rS rs ns ns.length L)
 | 0,k,h=>by rw[show k=ns.length by omega];exact Le.refl _
 | d+1,k,h=>by
  refine Le.trans ?_ (zr hW hl hP d (k+1) (by omega))
  have h1:=(vh hW k L (by omega) hl hP).1
  have eI:=lx rs ns k L
  rw[rS]
  intro i hi
  by_cases Iu:i=k
  ·subst Iu
   rw[cN (by omega)]
   exact JB (be hW (by omega)) (h1 i (by omega) hi)
  ·rw[dO Iu];exact hi
theorem RM {rs:List Rl}{ns:List Nd}(hW:Wf ns){L:List Bool}(hl:L.length=ns.length)(hP:Pr rs ns L)(h:rS rs ns ns.length L=L){i:Nat}(hi:i<ns.length):
  L.getD i false=eV (ap ns i) (L.getD (cL rs (dI rs (ap ns i))) false) (fun j=>L.getD j false):=by
 rw[Bool.eq_iff_iff]
 refine⟨fun x=>hP i hi x,fun x=>?_⟩
 have h1:=(vh hW i L (by omega) hl hP).2
 have h2:=zr hW hl hP (ns.length-i) i (by omega)
 rw[h]at h2
 have h3:rS rs ns i L=L:=(Le.antisymm (lx rs ns i L).symm h1 h2).symm
 have h4:=zr hW hl hP (ns.length-(i+1)) (i+1) (by omega)
 rw[h,rS,h3]at h4
 have h5:=h4 i
 rw[cN (by omega)]at h5
 exact h5 (JB (be hW hi) x)
theorem Gf {rs:List Rl}{ns:List Nd}(hW:Wf ns){i:Nat}(hi:i<ns.length):
  (ir rs ns).getD i false=eV (ap ns i) ((ir rs ns).getD (cL rs (dI rs (ap ns i))) false) (fun j=>(ir rs ns).getD j false):=by
 have hs:rS rs ns ns.length (ir rs ns)=ir rs ns:=by
  rcases Ex (rs:=rs) hW ns.length with⟨k,hk,he⟩ | h
  ·have h1:=ud he (ns.length+1-k)
   have h2:=ud he (ns.length+2-k)
   rw[show k+(ns.length+1-k)=ns.length+1 by omega]at h1
   rw[show k+(ns.length+2-k)=ns.length+1+1 by omega]at h2
   show emp rs ns (ns.length+1+1)=emp rs ns (ns.length+1)
   rw[h1,h2]
  ·have:=RI (emp rs ns (ns.length+1))
   rw[fY]at this
   omega
 exact RM hW (fY rs ns _) (CP hW _) hs hi
theorem An {rs:List Rl}{ns:List Nd}(hW:Wf ns)(C:Nat->Bool)(hC:∀i,i<ns.length->eV (ap ns i) (C (cL rs (dI rs (ap ns i)))) C=true->C i=true):∀i,(ir rs ns).getD i false=true->C i=true:=by
 have:∀r i,(emp rs ns r).getD i false=true->C i=true:=by
  intro r
  induction r with
  | zero=>
   intro i h
   simp[emp,List.getD,List.getElem?_replicate]at h
   split at h <;> simp at h
  | succ r ih=>exact FR hW C hC ns.length _ (Nat.le_refl _) (fY rs ns r) ih
 exact this _
def cE (rs:List Rl)(ns:List Nd)(S:Nat->Bool):Nat->Nat->Bool
 | 0,_=>false
 | f+1,i=>eV (ap ns i) (S (dI rs (ap ns i))) (cE rs ns S f)
theorem pa {rs:List Rl}{ns:List Nd}(hW:Wf ns)(S:Nat->Bool):∀f g i,i<ns.length->i<f->i<g->cE rs ns S f i=cE rs ns S g i
 | 0,_,i,_,h,_=>absurd h (by omega)
 | _,0,i,_,_,h=>absurd h (by omega)
 | f+1,g+1,i,hi,hf,hg=>by
  rw[cE,cE]
  exact ph (fun _=>rfl) (fun j hj=>by
   have:=(be hW hi).low j hj
   exact pa hW S f g j (by omega) (by omega) (by omega))
theorem P0 {rs:List Rl}{ns:List Nd}(hW:Wf ns)(S:Nat->Bool){i:Nat}(hi:i<ns.length):cE rs ns S ns.length i=eV (ap ns i) (S (dI rs (ap ns i))) (cE rs ns S ns.length):=by
 have h1:=pa (rs:=rs) hW S ns.length (ns.length+1) i hi hi (by omega)
 rw[h1,cE]
theorem pc {rs:List Rl}{ns:List Nd}(hW:Wf ns){S S':Nat->Bool}(h:∀i,i<ns.length->(ap ns i).kind=3->S (dI rs (ap ns i))=true->S' (dI rs (ap ns i))=true):∀f i,i<ns.length->cE rs ns S f i=true->cE rs ns S' f i=true
 | 0,i,_,x=>by cases x
 | f+1,i,hi,x=>by
  rw[cE]at x ⊢
  by_cases h3:(ap ns i).kind=3
  ·exact na (h i hi h3) (fun j hj y=>pc hW h f j (by have:=(be hW hi).low j hj;omega) y) x
  ·rw[ph (q':=S (dI rs (ap ns i))) (f':=cE rs ns S' f) (fun h=>absurd h h3) (fun _ _=>rfl)]
   exact na (fun y=>y) (fun j hj y=>pc hW h f j (by have:=(be hW hi).low j hj;omega) y) x
structure NE (rs:List Rl)(ns:List Nd)(S:Nat->Bool):Prop where
 fix:∀i,i<rs.length->S i=cE rs ns S ns.length (cL rs i)
 least:∀C:Nat->Bool,(∀i,i<rs.length->C i=cE rs ns C ns.length (cL rs i))->∀i,i<rs.length->S i=true->C i=true
theorem dy {rs:List Rl}{ns:List Nd}(hW:lK ns rs){i:Nat}(hi:i<rs.length):cL rs i<ns.length:=by
 unfold cL
 rw[List.getD,List.getElem?_map,List.getElem?_eq_getElem hi]
 exact hW.is _ (List.getElem_mem hi)
theorem gJ {rs:List Rl}{ns:List Nd}(hN:∀N∈ns,N.kind=3->(dg rs N.name).isSome=true){i:Nat}(hi:i<ns.length)(hk:(ap ns i).kind=3):dI rs (ap ns i)<rs.length:=by
 rw[bA hi]at hk ⊢
 obtain⟨k,fU⟩:=Option.isSome_iff_exists.1 (hN _ (List.getElem_mem hi) hk)
 unfold dI
 rw[fU]
 exact kY fU
theorem CQ {rs:List Rl}{ns:List Nd}(hW:lK ns rs)(hN:∀N∈ns,N.kind=3->(dg rs N.name).isSome=true){S:Nat->Bool}(hS:NE rs ns S):∀i,i<ns.length->(ir rs ns).getD i false=cE rs ns S ns.length i:=by
 have hV:∀f i,i<ns.length->i<f->cE rs ns (fun k=>(ir rs ns).getD (cL rs k) false) f i=(ir rs ns).getD i false:=by
  intro f
  induction f with
  | zero=>intro i _ h;omega
  | succ f ih=>
   intro i hi hf
   rw[cE,Gf hW.wf hi]
   exact ph (fun _=>rfl) (fun j hj=>by
    have:=(be hW.wf hi).low j hj
    exact ih j (by omega) (by omega))
 intro i hi
 rw[Bool.eq_iff_iff]
 constructor
 ·refine An hW.wf (fun j=>decide (j<ns.length)&&cE rs ns S ns.length j) (fun j hj h=>?_) i |> fun h x=>by
   have:=h x
   simp at this
   exact this.2
  rw[Bool.and_eq_true]
  refine⟨by simpa using hj,?_⟩
  rw[P0 hW.wf S hj]
  by_cases h3:(ap ns j).kind=3
  ·refine na (fun x=>?_) (fun k _ x=>by simp at x;exact x.2) h
   have hr:=gJ hN hj h3
   rw[hS.fix _ hr]
   simp at x
   exact x.2
  ·rw[ph (q':=decide (cL rs (dI rs (ap ns j))<ns.length)&&cE rs ns S ns.length (cL rs (dI rs (ap ns j)))) (f':=cE rs ns S ns.length) (fun h=>absurd h h3) (fun _ _=>rfl)]
   exact na (fun x=>x) (fun k _ x=>by simp at x;exact x.2) h
 ·intro h
  have h1:=hS.least (fun k=>(ir rs ns).getD (cL rs k) false) (fun k hk=>(hV ns.length _ (dy hW hk) (dy hW hk)).symm)
  rw[<-hV ns.length i hi hi]
  exact pc hW.wf (fun k hk h3 x=>h1 _ (gJ hN hk h3) x) _ i hi h
end Go.Proofs.YtagklnaaoclmhaaGreatDoor
namespace Go.Proofs.YtagklnaaoclmhaaGreatDoor
open Go.RowKit
theorem yj {step:Nat->Bool->List Bool->Bool × List Bool}{E:List Bool}{kind:Nat}(hs:∀j W,(step j false W).2=W):∀l bad W,(lT step E kind l bad false W).2=W
 | [],_,_=>rfl
 | j :: r,bad,W=>by rw[lT,show (if kind=5/\E.getD j false=false then false else false)=false by split <;> rfl,yj hs r,hs]
theorem Ee {rs:List Rl}{ns:List Nd}{E:List Bool}:∀f i W,(ga rs ns E f i false W).2=W
 | 0,_,_=>rfl
 | f+1,i,W=>by rw[ga,yj (fun j W=>Ee f j W)];simp
def aL (step:Nat->List Bool->List Bool)(e:Nat->Bool)(kind:Nat):List Nat->List Bool->List Bool
 | [],W=>W
 | j :: r,W=>if kind=5/\e j=false then step j W else aL step e kind r (step j W)
def aB (rs:List Rl)(ns:List Nd)(S:Nat->Bool):Nat->Nat->List Bool->List Bool
 | 0,_,W=>W
 | f+1,i,W=>aL (aB rs ns S f) (cE rs ns S ns.length) (ap ns i).kind (ap ns i).subs (if (ap ns i).kind=3 then W.set (dI rs (ap ns i)) true else W)
theorem IU {step:Nat->List Bool->List Bool}{e:Nat->Bool}{kind:Nat}(hs:∀j W,(step j W).length=W.length):∀l W,(aL step e kind l W).length=W.length
 | [],_=>rfl
 | j :: r,W=>by
  rw[aL]
  split
  ·exact hs j W
  ·rw[IU hs r,hs]
theorem tN {rs:List Rl}{ns:List Nd}{S:Nat->Bool}:∀f i W,(aB rs ns S f i W).length=W.length
 | 0,_,_=>rfl
 | f+1,i,W=>by
  rw[aB,IU (fun j W=>tN f j W)]
  split <;> simp
structure NH (W V:List Bool):Prop where
 le:W.length<=V.length
 eq:∀k,W.getD k false=V.getD k false
theorem NH.set {W V:List Bool}(h:NH W V){k:Nat}(hk:k<W.length)(v:Bool):NH (W.set k v) (V.set k v):=by
 have:=h.le
 refine⟨by simpa using h.le,fun j=>?_⟩
 by_cases hj:j=k
 ·subst hj;rw[cN hk,cN (by omega)]
 ·rw[dO hj,dO hj];exact h.eq j
theorem Eh {n:Nat}{step:Nat->Bool->List Bool->Bool × List Bool}{st:Nat->List Bool->List Bool}{E:List Bool}{e:Nat->Bool}{kind:Nat}(hf:∀j W,(step j false W).2=W):∀l bad W V,(∀j∈l,E.getD j false=e j)->(∀j∈l,∀W V,W.length=n->NH W V->NH (step j true W).2 (st j V)/\(step j true W).2.length=n)->W.length=n->NH W V->NH (lT step E kind l bad true W).2 (aL st e kind l V)/\(lT step E kind l bad true W).2.length=n
 | [],_,_,_,_,_,hn,h=>⟨h,hn⟩
 | j :: r,bad,W,V,he,hs,hn,h=>by
  obtain⟨h1,h2⟩:=hs j (List.mem_cons_self ..) W V hn h
  rw[lT,aL,he j (List.mem_cons_self ..)]
  by_cases hc:kind=5/\e j=false
  ·rw[if_pos hc,if_pos hc,yj hf];exact⟨h1,h2⟩
  ·rw[if_neg hc,if_neg hc]
   exact Eh hf r _ _ _ (fun j hj=>he j (List.mem_cons_of_mem _ hj)) (fun j hj=>hs j (List.mem_cons_of_mem _ hj)) h2 h1
theorem rZ {rs:List Rl}{ns:List Nd}{E:List Bool}{S:Nat->Bool}(hW:lK ns rs)(hN:∀N∈ns,N.kind=3->(dg rs N.name).isSome=true)(hE:∀i,i<ns.length->E.getD i false=cE rs ns S ns.length i):∀f i W V,i<ns.length->W.length=rs.length->NH W V->NH (ga rs ns E f i true W).2 (aB rs ns S f i V)/\(ga rs ns E f i true W).2.length=rs.length
 | 0,i,W,V,_,hn,h=>⟨h,hn⟩
 | f+1,i,W,V,hi,hn,h=>by
  rw[ga,aB]
  have ew:=(be hW.wf hi).low
  refine Eh (fun j W=>Ee f j W) _ _ _ _ (fun j hj=>hE j (by have:=ew j hj;omega)) (fun j hj W V OC h'=>rZ hW hN hE f j W V (by have:=ew j hj;omega) OC h') ?_ ?_
  ·split <;> simp[hn]
  ·by_cases h3:(ap ns i).kind=3
   ·rw[if_pos ⟨h3,rfl⟩,if_pos h3]
    exact h.set (by rw[hn];exact gJ hN hi h3) true
   ·rw[if_neg (fun x=>h3 x.1),if_neg h3];exact h
def rE (rs:List Rl)(ns:List Nd)(S:Nat->Bool):Nat->Nat->Bool
 | 0,_=>false
 | f+1,i=>(ap ns i).subs.any (fun j=>(decide ((ap ns i).kind=7\/(ap ns i).kind=8)&&cE rs ns S ns.length j)||rE rs ns S f j)
theorem Ef {step:Nat->Bool->List Bool->Bool × List Bool}{E:List Bool}{kind:Nat}{g:Nat->Bool}:∀l bad a W,(∀j∈l,∀a W,(step j a W).1=g j)->(lT step E kind l bad a W).1=(bad||l.any g)
 | [],bad,_,_,_=>by simp[lT]
 | j :: r,bad,a,W,hs=>by
  rw[lT,Ef r _ _ _ (fun j hj=>hs j (List.mem_cons_of_mem _ hj)),hs j (List.mem_cons_self ..),List.any_cons,Bool.or_assoc]
theorem pY {rs:List Rl}{ns:List Nd}{E:List Bool}{S:Nat->Bool}(hW:Wf ns)(hE:∀i,i<ns.length->E.getD i false=cE rs ns S ns.length i):∀f i a W,i<ns.length->(ga rs ns E f i a W).1=rE rs ns S f i
 | 0,i,_,_,_=>rfl
 | f+1,i,a,W,hi=>by
  have ew:=(be hW hi).low
  rw[ga,rE,Ef (g:=rE rs ns S f) _ _ _ _ (fun j hj a W=>pY hW hE f j a W (by have:=ew j hj;omega))]
  by_cases hk:(ap ns i).kind=7\/(ap ns i).kind=8
  ·obtain⟨x,hx⟩:=(be hW hi).one (by omega)
   rw[hx]at ew ⊢
   have:=ew x (by simp)
   simp only[hk,decide_true,Bool.true_and,List.getD_cons_zero,List.any_cons,List.any_nil,Bool.or_false]
   rw[hE x (by omega)]
  ·simp[hk]
def cw (M:Nat->Nat->Bool)(k i:Nat):Nat->Nat->Bool:=fun a b=>if a=i then M i b||(M i k&&M k b) else M a b
def cI (M:Nat->Nat->Bool)(k:Nat):Nat->Nat->Nat->Bool
 | 0=>M
 | i+1=>cw (cI M k i) k i
def cK (M:Nat->Nat->Bool):Nat->Nat->Nat->Bool
 | 0=>M
 | k+1=>cI (cK M k) k 8
theorem uk {α:Type}{l:List α}{i:Nat}{d:α}(h:l.length<=i):l.getD i d=d:=by simp[List.getD,List.getElem?_eq_none h]
structure zR (n:Nat)(M:List (List Bool)):Prop where
 len:M.length=n
 row:∀i,i<n->(M.getD i []).length=n
theorem zR.out1 {n:Nat}{M:List (List Bool)}(h:zR n M){a b:Nat}(ha:n<=a):gY M a b=false:=by
 unfold gY
 rw[show M.getD a []=[] from uk (by rw[h.len];exact ha)];simp
theorem zR.out2 {n:Nat}{M:List (List Bool)}(h:zR n M){a b:Nat}(hb:n<=b):gY M a b=false:=by
 rcases Nat.lt_or_ge a n with ha | ha
 ·unfold gY;rw[uk (by rw[h.row a ha];exact hb)]
 ·exact h.out1 ha
theorem xe {M:List (List Bool)}{i a:Nat}{r:List Bool}(hi:i<M.length):(M.set i r).getD a []=if a=i then r else M.getD a []:=by
 by_cases h:a=i
 ·subst h;rw[if_pos rfl];simp[List.getD,hi]
 ·rw[if_neg h];simp[List.getD,List.getElem?_set,Ne.symm h]
theorem NO {n:Nat}{M:List (List Bool)}(h:zR n M){k i j:Nat}(hi:i<n)(hj:j<n)(a b:Nat):gY (Q0 M k i j) a b=if a=i/\b=j then gY M i j||(gY M i k&&gY M k j) else gY M a b:=by
 unfold Q0
 generalize (gY M i j||(gY M i k&&gY M k j))=v
 unfold gY
 rw[xe (by rw[h.len];exact hi)]
 by_cases ha:a=i
 ·subst ha
  rw[if_pos rfl]
  by_cases hb:b=j
  ·subst hb;rw[if_pos ⟨rfl,rfl⟩,cN (by rw[h.row a hi];exact hj)]
  ·rw[if_neg (fun x=>hb x.2),dO hb]
 ·rw[if_neg ha,if_neg (fun x=>ha x.1)]
theorem zR.upd {n:Nat}{M:List (List Bool)}(h:zR n M){k i j:Nat}(hi:i<n):zR n (Q0 M k i j):=by
 refine⟨by simp[Go.Proofs.YtagklnaaoclmhaaGreatDoor.Q0,h.len],fun a ha=>?_⟩
 unfold Go.Proofs.YtagklnaaoclmhaaGreatDoor.Q0
 rw[xe (by rw[h.len];exact hi)]
 split
 ·rw[List.length_set];exact h.row i hi
 ·exact h.row a ha
theorem MJ {n:Nat}{M:List (List Bool)}(h:zR n M){k i:Nat}(hi:i<n):∀j,j<=n->zR n (wj M k i j)/\∀a b,gY (wj M k i j) a b=if a=i/\b<j then gY M i b||(gY M i k&&gY M k b) else gY M a b
 | 0,_=>⟨h,fun a b=>by rw[if_neg (by omega)];rfl⟩
 | j+1,hj=>by
  obtain⟨h1,h2⟩:=MJ h hi j (by omega)
  refine⟨h1.upd hi,fun a b=>?_⟩
  rw[wj,NO h1 hi (by omega)]
  have e1:gY (wj M k i j) i k=gY M i k:=by
   rw[h2]
   split
   ·cases gY M i k <;> simp
   ·rfl
  have e2:gY (wj M k i j) k j=gY M k j:=by rw[h2,if_neg (by omega)]
  have e3:gY (wj M k i j) i j=gY M i j:=by rw[h2,if_neg (by omega)]
  rw[e1,e2,e3]
  by_cases hb:a=i/\b=j
  ·obtain⟨rfl,rfl⟩:=hb
   rw[if_pos ⟨rfl,rfl⟩,if_pos ⟨rfl,by omega⟩]
  ·rw[if_neg hb,h2]
   by_cases hc:a=i/\b<j
   ·rw[if_pos hc,if_pos ⟨hc.1,by omega⟩]
   ·rw[if_neg hc,if_neg (by omega)]
theorem YT {n:Nat}{M:List (List Bool)}(h:zR n M){k i:Nat}(hi:i<n)(a b:Nat):gY (wj M k i n) a b=cw (gY M) k i a b:=by
 rw[(MJ h hi n (Nat.le_refl _)).2]
 unfold cw
 by_cases ha:a=i
 ·subst ha
  rw[if_pos rfl]
  by_cases hb:b<n
  ·rw[if_pos ⟨rfl,hb⟩]
  ·rw[if_neg (fun x=>hb x.2),h.out2 (a:=a) (b:=b) (by omega),h.out2 (a:=k) (b:=b) (by omega)];simp
 ·rw[if_neg ha,if_neg (fun x=>ha x.1)]
theorem Q5 {n:Nat}{M:List (List Bool)}(h:zR n M)(k:Nat):∀i,i<=n->zR n (wi n M k i)/\gY (wi n M k i)=cI (gY M) k i
 | 0,_=>⟨h,rfl⟩
 | i+1,hi=>by
  obtain⟨h1,h2⟩:=Q5 h k i (by omega)
  refine⟨(MJ h1 (by omega) n (Nat.le_refl _)).1,?_⟩
  funext a b
  rw[wi,YT h1 (by omega),h2,cI]
theorem I8 {M:Nat->Nat->Bool}{k n:Nat}(h:∀a b,n<=a->M a b=false):∀d,cI M k (n+d)=cI M k n
 | 0=>rfl
 | d+1=>by
  rw[<-Nat.add_assoc,cI,I8 h d]
  have hr:∀i a b,n<=a->cI M k i a b=false:=by
   intro i
   induction i with
   | zero=>exact h
   | succ i ih=>
    intro a b ha
    rw[cI]
    unfold cw
    split
    ·next he=>subst he;rw[ih a b ha,ih a k ha];rfl
    ·exact ih a b ha
  funext a b
  unfold cw
  split
  ·next he=>subst he;rw[hr n (n+d) k (by omega)];simp
  ·rfl
theorem I7 {M:Nat->Nat->Bool}{k:Nat}(h:∀a,M a k=false):∀i,cI M k i=M
 | 0=>rfl
 | i+1=>by
  rw[cI,I7 h i]
  funext a b
  unfold cw
  split
  ·next he=>subst he;rw[h];simp
  ·rfl
theorem MK {n:Nat}{M:List (List Bool)}(h:zR n M)(h8:n<=8):∀k,k<=n->zR n (wk n M k)/\gY (wk n M k)=cK (gY M) k
 | 0,_=>⟨h,rfl⟩
 | k+1,hk=>by
  obtain⟨h1,h2⟩:=MK h h8 k (by omega)
  obtain⟨h3,h4⟩:=Q5 h1 k n (Nat.le_refl _)
  refine⟨h3,?_⟩
  rw[wk,h4,cK,<-h2]
  have:=I8 (M:=gY (wk n M k)) (k:=k) (n:=n) (fun a b ha=>h1.out1 ha) (8-n)
  rw[show n+(8-n)=8 by omega]at this
  exact this.symm
theorem Ei {n:Nat}{M:List (List Bool)}(h:zR n M)(h8:n<=8):∀d,cK (gY M) (n+d)=gY (wk n M n)
 | 0=>(MK h h8 n (Nat.le_refl _)).2.symm
 | d+1=>by
  rw[<-Nat.add_assoc,cK,Ei h h8 d]
  exact I7 (fun a=>(MK h h8 n (Nat.le_refl _)).1.out2 (by omega)) 8
def m0 (rs:List Rl)(ns:List Nd)(S:Nat->Bool)(a b:Nat):Bool:=decide (a<rs.length)&&(aB rs ns S ns.length (cL rs a) (List.replicate 8 false)).getD b false
def ko (rs:List Rl)(ns:List Nd)(S:Nat->Bool)(i:Nat):Bool:=cK (m0 rs ns S) 8 i i||rE rs ns S ns.length (cL rs i)
theorem kW {rs:List Rl}{ns:List Nd}{S:Nat->Bool}(hW:lK ns rs)(hN:∀N∈ns,N.kind=3->(dg rs N.name).isSome=true)(hS:NE rs ns S)(i:Nat)(hi:i<rs.length):
  (gY (lH rs ns) i i||(iO rs ns rs.length).getD i false)=ko rs ns S i:=by
 have hE:=CQ hW hN hS
 have hb:=fun t (ht:t<rs.length)=>rZ hW hN hE ns.length (cL rs t) (List.replicate rs.length false) (List.replicate 8 false) (dy hW ht) (by simp) ⟨by simpa using hW.len,fun k=>by
  simp only[List.getD,List.getElem?_replicate]
  split <;> split <;> rfl⟩
 have hM:gY (dM rs ns rs.length)=m0 rs ns S:=by
  funext a b
  unfold m0
  by_cases ha:a<rs.length
  ·rw[decide_eq_true ha,Bool.true_and,<-(hb a ha).1.eq b]
   have:(dM rs ns rs.length).getD a []=(MX rs ns a).2:=by
    unfold dM
    rw[List.getD,List.getElem?_map,List.getElem?_range ha]
    rfl
   unfold gY
   rw[this]
   rfl
  ·rw[decide_eq_false ha,Bool.false_and]
   unfold gY
   rw[show (dM rs ns rs.length).getD a []=[] from uk (by simp[dM];omega)];simp
 have hsq:zR rs.length (dM rs ns rs.length):=by
  refine⟨by simp[dM],fun t ht=>?_⟩
  unfold dM
  rw[List.getD,List.getElem?_map,List.getElem?_range ht]
  exact(hb t ht).2
 have h1:=Ei hsq hW.len (8-rs.length)
 rw[show rs.length+(8-rs.length)=8 by have:=hW.len;omega]at h1
 unfold ko
 rw[<-hM,h1]
 congr 1
 unfold iO
 rw[List.getD,List.getElem?_map,List.getElem?_range hi]
 show (decide (i<rs.length)&&(MX rs ns i).1)=_
 rw[decide_eq_true hi,Bool.true_and]
 exact pY hW.wf hE ns.length (cL rs i) true _ (dy hW hi)
end Go.Proofs.YtagklnaaoclmhaaGreatDoor
namespace Go.Proofs.YtagklnaaoclmhaaGreatDoor
open Go.RowKit
theorem qQ {M:Nat->Nat->Bool}{k:Nat}:∀i a b,cI M k i a b=if a<i then M a b||(M a k&&M k b) else M a b
 | 0,a,b=>by simp[cI]
 | i+1,a,b=>by
  rw[cI]
  unfold cw
  rw[qQ i i b,qQ i i k,qQ i k b,qQ i a b]
  by_cases ha:a=i
  ·subst ha
   rw[if_pos rfl,if_neg (Nat.lt_irrefl _),if_neg (Nat.lt_irrefl _),if_pos (Nat.lt_succ_self _)]
   by_cases hk:k<a
   ·rw[if_pos hk]
    cases M a b <;> cases M a k <;> cases M k b <;> cases M k k <;> rfl
   ·rw[if_neg hk]
  ·rw[if_neg ha]
   by_cases h2:a<i
   ·rw[if_pos h2,if_pos (by omega)]
   ·rw[if_neg h2,if_neg (by omega)]
theorem I9 (M:Nat->Nat->Bool):∀k,k<=8->∀m i j,m<k->i<8->j<8->cK M k i m=true->cK M k m j=true->cK M k i j=true
 | 0,_,m,_,_,hm,_,_,_,_=>absurd hm (by omega)
 | k+1,hk,m,i,j,hm,hi,hj,h1,h2=>by
  have ih:=I9 M k (by omega)
  rw[cK,qQ]at h1 h2 ⊢
  rw[if_pos hi]at h1 ⊢
  rw[if_pos (show m<8 by omega)]at h2
  generalize cK M k=N at *
  rw[Bool.or_eq_true,Bool.and_eq_true]at h1 h2 ⊢
  by_cases ld:m=k
  ·subst ld
   right
   refine⟨?_,?_⟩
   ·rcases h1 with h | h
    ·exact h
    ·exact h.1
   ·rcases h2 with h | h
    ·exact h
    ·exact h.2
  ·have SJ:m<k:=by omega
   rcases h1 with h1 | h1
   ·rcases h2 with h2 | h2
    ·exact .inl (ih m i j SJ hi hj h1 h2)
    ·exact .inr ⟨ih m i k SJ hi (by omega) h1 h2.1,h2.2⟩
   ·rcases h2 with h2 | h2
    ·exact .inr ⟨h1.1,ih m k j SJ (by omega) hj h1.2 h2⟩
    ·exact .inr ⟨h1.1,h2.2⟩
theorem Ej (M:Nat->Nat->Bool)(i j:Nat)(h:M i j=true):∀k,cK M k i j=true
 | 0=>h
 | k+1=>by
  rw[cK,qQ]
  split
  ·rw[Ej M i j h k];simp
  ·exact Ej M i j h k
def l7 (M:Nat->Nat->Bool)(r:Nat):Nat:=((List.range 8).filter (fun x=>cK M 8 r x)).length
theorem qW {p q:Nat->Bool}{x:Nat}:∀{l:List Nat},(∀y∈l,p y=true->q y=true)->x∈l->p x=false->q x=true->(l.filter p).length<(l.filter q).length
 | [],_,hx,_,_=>absurd hx (by simp)
 | y :: l,h,hx,h1,h2=>by
  have nj:(l.filter p).length<=(l.filter q).length:=by
   clear hx
   induction l with
   | nil=>simp
   | cons z l ih=>
    have:=ih (fun w hw=>h w (by simp at hw ⊢;rcases hw with e | e;exact .inl e;exact .inr (.inr e)))
    have hz:=h z (by simp)
    cases hp:p z <;> cases hq:q z <;> simp[hp,hq]at hz ⊢ <;> omega
  rcases List.mem_cons.1 hx with e | e
  ·subst e
   rw[List.filter_cons_of_neg (by simp[h1]),List.filter_cons_of_pos h2,List.length_cons]
   omega
  ·have:=qW (fun w hw=>h w (List.mem_cons_of_mem _ hw)) e h1 h2
   have hy:=h y (List.mem_cons_self ..)
   cases hp:p y <;> cases hq:q y <;> simp[hp,hq]at hy ⊢ <;> omega
theorem Ua {M:Nat->Nat->Bool}{a b:Nat}(ha:a<8)(hb:b<8)(h:M a b=true)(sh:cK M 8 b b=false):l7 M b<l7 M a:=by
 unfold l7
 refine qW (x:=b) (fun y hy hp=>?_) (List.mem_range.2 hb) sh (Ej M a b h 8)
 exact I9 M 8 (Nat.le_refl _) b a y hb ha (List.mem_range.1 hy) (Ej M a b h 8) hp
theorem uX (M:Nat->Nat->Bool)(a:Nat):l7 M a<=8:=by
 unfold l7
 exact Nat.le_trans (List.length_filter_le _ _) (by simp)
inductive Bg (rs:List Rl) (ns:List Nd) (S:Nat->Bool):Nat->Nat->Prop
 | name {i:Nat} (h:(ap ns i).kind=3):Bg rs ns S i (dI rs (ap ns i))
 | sub {i j r:Nat} (h:j∈(ap ns i).subs) (hk:(ap ns i).kind≠5) (hb:Bg rs ns S j r):Bg rs ns S i r
 | item {i j r:Nat} {l m:List Nat} (h:(ap ns i).subs=l++j :: m) (hk:(ap ns i).kind=5) (he:∀x∈l,cE rs ns S ns.length x=true) (hb:Bg rs ns S j r):Bg rs ns S i r
theorem zU {step:Nat->List Bool->List Bool}{e:Nat->Bool}{kind r:Nat}(hs:∀j W,W.getD r false=true->(step j W).getD r false=true):∀l W,W.getD r false=true->(aL step e kind l W).getD r false=true
 | [],W,h=>h
 | j :: l,W,h=>by
  rw[aL]
  split
  ·exact hs j W h
  ·exact zU hs l _ (hs j W h)
theorem D8 {rs:List Rl}{ns:List Nd}{S:Nat->Bool}{r:Nat}:∀f i W,W.getD r false=true->(aB rs ns S f i W).getD r false=true
 | 0,_,_,h=>h
 | f+1,i,W,h=>by
  rw[aB]
  refine zU (fun j W h=>D8 f j W h) _ _ ?_
  split
  ·by_cases hr:r=dI rs (ap ns i)
   ·by_cases hl:r<W.length
    ·rw[hr,cN (by omega)]
    ·rw[List.set_eq_of_length_le (by omega)];exact h
   ·rw[dO hr];exact h
  ·exact h
theorem IV {step:Nat->List Bool->List Bool}{e:Nat->Bool}{kind r j n:Nat}(hu:∀j W,W.getD r false=true->(step j W).getD r false=true)(hl:∀j W,(step j W).length=W.length)(hj:∀W,W.length=n->(step j W).getD r false=true)(hk:kind≠5):∀l W,W.length=n->j∈l->(aL step e kind l W).getD r false=true
 | [],W,_,h=>absurd h (by simp)
 | x :: l,W,hn,h=>by
  rw[aL,if_neg (fun y=>hk y.1)]
  rcases List.mem_cons.1 h with e | e
  ·subst e;exact zU hu l _ (hj W hn)
  ·exact IV hu hl hj hk l _ (by rw[hl];exact hn) e
theorem D9 {step:Nat->List Bool->List Bool}{e:Nat->Bool}{kind r j n:Nat}{m:List Nat}(hu:∀j W,W.getD r false=true->(step j W).getD r false=true)(hl:∀j W,(step j W).length=W.length)(hj:∀W,W.length=n->(step j W).getD r false=true):∀l W,W.length=n->(∀x∈l,e x=true)->(aL step e kind (l++j :: m) W).getD r false=true
 | [],W,hn,_=>by
  rw[List.nil_append,aL]
  split
  ·exact hj W hn
  ·exact zU hu m _ (hj W hn)
 | x :: l,W,hn,h=>by
  rw[List.cons_append,aL,if_neg (fun y=>by rw[h x (List.mem_cons_self ..)]at y;exact Bool.noConfusion y.2)]
  exact D9 hu hl hj l _ (by rw[hl];exact hn) (fun y hy=>h y (List.mem_cons_of_mem _ hy))
theorem Bg.told {rs:List Rl}{ns:List Nd}{S:Nat->Bool}(hW:Wf ns){i r:Nat}(h:Bg rs ns S i r):∀f W,i<f->i<ns.length->r<W.length->(aB rs ns S f i W).getD r false=true:=by
 induction h with
 | name hk=>
  intro f W hf hi hr
  cases f with
  | zero=>omega
  | succ f=>
   rw[aB,if_pos hk]
   exact zU (fun j W h=>D8 f j W h) _ _ (cN hr)
 | @sub i j r hj hk hb ih=>
  intro f W hf hi hr
  have ew:=(be hW hi).low j hj
  cases f with
  | zero=>omega
  | succ f=>
   rw[aB]
   exact IV (n:=W.length) (fun j W h=>D8 f j W h) (fun j W=>tN f j W) (fun W' Ay=>ih f W' (by omega) (by omega) (by omega)) hk _ _ (by split <;> simp) hj
 | @item i j r l m he hk hl hb ih=>
  intro f W hf hi hr
  have ew:=(be hW hi).low j (by rw[he];simp)
  cases f with
  | zero=>omega
  | succ f=>
   rw[aB,if_neg (by omega),he]
   exact D9 (n:=W.length) (fun j W h=>D8 f j W h) (fun j W=>tN f j W) (fun W' Ay=>ih f W' (by omega) (by omega) (by omega)) _ W rfl hl
structure Ie where
 rule:Nat
 from_:Nat
 to:Nat
 dep:Nat
structure Ot where
 to:Option Nat
 ev:List (Nat × Nat)
 rn:Nat
 tr:List Ie
def sY (b:Nat->Nat)(len at_:Nat)(t:List UInt8):Bool:=decide (at_+t.length<=len)&&(List.range t.length).all (fun k=>b (at_+k) == (t.getD k 0).toNat)
def mX (b:Nat->Nat)(len:Nat)(N:Nd)(at_:Nat):Option Nat:=
 if N.kind=0 then (if sY b len at_ N.text then some (at_+N.text.length) else none)
 else if at_<len/\(N.kind=2\/wB N.rng (b at_)=true) then some (at_+1) else none
def Md (b:Nat->Nat)(len:Nat)(N:Nd)(at_:Nat):Ot:=⟨mX b len N at_,if (mX b len N at_).isNone then [(at_,N.term)] else [],0,[]⟩
def iP (step:Nat->Option Ot):List Nat->Option Ot
 | []=>some ⟨none,[],0,[]⟩
 | j :: l=>match step j with
  | none=>none
  | some o=>if o.to.isSome then some o else (iP step l).map (fun p=>⟨p.to,o.ev++p.ev,o.rn+p.rn,p.tr⟩)
def iE (step:Nat->Nat->Option Ot):List Nat->Nat->Option Ot
 | [],a=>some ⟨some a,[],0,[]⟩
 | j :: l,a=>match step j a with
  | none=>none
  | some o=>match o.to with
   | none=>some ⟨none,o.ev,o.rn,[]⟩
   | some t=>(iE step l t).map (fun p=>⟨p.to,o.ev++p.ev,o.rn+p.rn,if p.to.isSome then o.tr++p.tr else []⟩)
def gy (step:Nat->Option Ot):Nat->Nat->Option Ot
 | 0,_=>none
 | f+1,a=>match step a with
  | none=>none
  | some o=>match o.to with
   | none=>some ⟨some a,o.ev,o.rn,[]⟩
   | some t=>(gy step f t).map (fun p=>⟨p.to,o.ev++p.ev,o.rn+p.rn,o.tr++p.tr⟩)
def bR (b:Nat->Nat)(len:Nat)(rs:List Rl)(ns:List Nd):Nat->Nat->Nat->Nat->Option Ot
 | 0,_,_,_=>none
 | f+1,i,a,dp=>
  if (ap ns i).kind<=2 then some (Md b len (ap ns i) a)
  else if (ap ns i).kind=3 then (bR b len rs ns f (cL rs (dI rs (ap ns i))) a (dp+1)).map (fun o=>⟨o.to,o.ev,o.rn+1,match o.to with | some t=>⟨dI rs (ap ns i),a,t,dp⟩ :: o.tr | none=>[]⟩)
  else if (ap ns i).kind=4 then iP (fun j=>bR b len rs ns f j a dp) (ap ns i).subs
  else if (ap ns i).kind=5 then iE (fun j a=>bR b len rs ns f j a dp) (ap ns i).subs a
  else if (ap ns i).kind=6 then (bR b len rs ns f ((ap ns i).subs.getD 0 0) a dp).map (fun o=>if o.to.isNone then ⟨some a,o.ev,o.rn,[]⟩ else o)
  else if (ap ns i).kind=7 then gy (fun a=>bR b len rs ns f ((ap ns i).subs.getD 0 0) a dp) f a
  else if (ap ns i).kind=8 then
   match bR b len rs ns f ((ap ns i).subs.getD 0 0) a dp with
   | none=>none
   | some o=>match o.to with
    | none=>some ⟨none,o.ev,o.rn,[]⟩
    | some t=>(gy (fun a=>bR b len rs ns f ((ap ns i).subs.getD 0 0) a dp) f t).map (fun p=>⟨p.to,o.ev++p.ev,o.rn+p.rn,o.tr++p.tr⟩)
  else (bR b len rs ns f ((ap ns i).subs.getD 0 0) a dp).map (fun o=>⟨if o.to.isSome=decide ((ap ns i).kind=9) then some a else none,o.ev,o.rn,[]⟩)
theorem tX {s s':Nat->Option Ot}(h:∀j o,s j=some o->s' j=some o):∀l o,iP s l=some o->iP s' l=some o
 | [],o,ho=>ho
 | j :: l,o,ho=>by
  rw[iP]at ho ⊢
  cases hj:s j with
  | none=>rw[hj]at ho;cases ho
  | some p=>
   rw[hj]at ho
   rw[h j p hj]
   simp only at ho ⊢
   split
   ·next hp=>rw[if_pos hp]at ho;exact ho
   ·next hp=>
    rw[if_neg hp]at ho
    cases hl:iP s l with
    | none=>rw[hl]at ho;cases ho
    | some q=>rw[hl]at ho;rw[tX h l q hl];exact ho
theorem vd {s s':Nat->Nat->Option Ot}(h:∀j a o,s j a=some o->s' j a=some o):∀l a o,iE s l a=some o->iE s' l a=some o
 | [],a,o,ho=>ho
 | j :: l,a,o,ho=>by
  rw[iE]at ho ⊢
  cases hj:s j a with
  | none=>rw[hj]at ho;cases ho
  | some p=>
   rw[hj]at ho
   rw[h j a p hj]
   simp only at ho ⊢
   cases hp:p.to with
   | none=>rw[hp]at ho;exact ho
   | some t=>
    rw[hp]at ho
    simp only at ho ⊢
    cases hl:iE s l t with
    | none=>rw[hl]at ho;cases ho
    | some q=>rw[hl]at ho;rw[vd h l t q hl];exact ho
theorem mU {s s':Nat->Option Ot}(h:∀a o,s a=some o->s' a=some o):∀f g a o,f<=g->gy s f a=some o->gy s' g a=some o
 | 0,_,_,_,_,ho=>by cases ho
 | f+1,0,_,_,hg,_=>absurd hg (by omega)
 | f+1,g+1,a,o,hg,ho=>by
  rw[gy]at ho ⊢
  cases hj:s a with
  | none=>rw[hj]at ho;cases ho
  | some p=>
   rw[hj]at ho
   rw[h a p hj]
   simp only at ho ⊢
   cases hp:p.to with
   | none=>rw[hp]at ho;exact ho
   | some t=>
    rw[hp]at ho
    simp only at ho ⊢
    cases hl:gy s f t with
    | none=>rw[hl]at ho;cases ho
    | some q=>rw[hl]at ho;rw[mU h f g t q (by omega) hl];exact ho
theorem np {α β:Type}{x y:Option α}{g:α->β}{o:β}(h:x.map g=some o)(hx:∀p,x=some p->y=some p):y.map g=some o:=by
 cases hxx:x with
 | none=>rw[hxx]at h;cases h
 | some p=>rw[hxx]at h;rw[hx p hxx];exact h
theorem pS {b:Nat->Nat}{len:Nat}{rs:List Rl}{ns:List Nd}:∀f i a dp o,bR b len rs ns f i a dp=some o->bR b len rs ns (f+1) i a dp=some o
 | 0,_,_,_,_,h=>by cases h
 | f+1,i,a,dp,o,h=>by
  have ih:=pS (b:=b) (len:=len) (rs:=rs) (ns:=ns) f
  rw[bR]at h ⊢
  split
  ·next hk=>rw[if_pos hk]at h;exact h
  next hk=>
  rw[if_neg hk]at h
  split
  ·next hk=>rw[if_pos hk]at h;exact np h (fun p hp=>ih _ _ _ p hp)
  next hk=>
  rw[if_neg hk]at h
  split
  ·next hk=>rw[if_pos hk]at h;exact tX (fun j p hp=>ih _ _ _ p hp) _ _ h
  next hk=>
  rw[if_neg hk]at h
  split
  ·next hk=>rw[if_pos hk]at h;exact vd (fun j a p hp=>ih _ _ _ p hp) _ _ _ h
  next hk=>
  rw[if_neg hk]at h
  split
  ·next hk=>rw[if_pos hk]at h;exact np h (fun p hp=>ih _ _ _ p hp)
  next hk=>
  rw[if_neg hk]at h
  split
  ·next hk=>rw[if_pos hk]at h;exact mU (fun a p hp=>ih _ _ _ p hp) f (f+1) _ _ (by omega) h
  next hk=>
  rw[if_neg hk]at h
  split
  ·next hk=>
   rw[if_pos hk]at h
   cases hx:bR b len rs ns f ((ap ns i).subs.getD 0 0) a dp with
   | none=>rw[hx]at h;cases h
   | some p=>
    rw[hx]at h
    rw[ih _ _ _ p hx]
    simp only at h ⊢
    cases hp:p.to with
    | none=>rw[hp]at h;exact h
    | some t=>
     rw[hp]at h
     simp only at h ⊢
     exact np h (fun q hq=>mU (fun a p hp=>ih _ _ _ p hp) f (f+1) _ _ (by omega) hq)
  next hk=>
  rw[if_neg hk]at h
  exact np h (fun p hp=>ih _ _ _ p hp)
theorem Bm {b:Nat->Nat}{len:Nat}{rs:List Rl}{ns:List Nd}{f i a dp:Nat}{o:Ot}(h:bR b len rs ns f i a dp=some o):∀d,bR b len rs ns (f+d) i a dp=some o
 | 0=>h
 | d+1=>pS _ _ _ _ _ (Bm h d)
theorem jZ {b:Nat->Nat}{len:Nat}{rs:List Rl}{ns:List Nd}{f g i a dp:Nat}{o:Ot}(h:bR b len rs ns f i a dp=some o)(hg:f<=g):bR b len rs ns g i a dp=some o:=by
 have:=Bm h (g-f)
 rwa [show f+(g-f)=g by omega]at this
theorem Je {s:Nat->Option Ot}{t:Nat}:∀l o,iP s l=some o->o.to=some t->∃j,j∈l/\∃p,s j=some p/\p.to=some t
 | [],o,h,ht=>by
  rw[iP]at h
  have:=Option.some.inj h
  subst this
  cases ht
 | j :: l,o,h,ht=>by
  rw[iP]at h
  cases hj:s j with
  | none=>rw[hj]at h;cases h
  | some p=>
   rw[hj]at h
   simp only at h
   split at h
   ·have:=Option.some.inj h
    subst this
    exact⟨j,List.mem_cons_self ..,p,hj,ht⟩
   ·cases hl:iP s l with
    | none=>rw[hl]at h;cases h
    | some q=>
     rw[hl]at h
     have:=Option.some.inj h
     subst this
     obtain⟨x,hx,p',h1,h2⟩:=Je l q hl ht
     exact⟨x,List.mem_cons_of_mem _ hx,p',h1,h2⟩
theorem L5 {len:Nat}{e:Nat->Prop}{s:Nat->Nat->Option Ot}:∀l a o t,(∀j∈l,∀a p t,a<=len->s j a=some p->p.to=some t->a<=t/\t<=len/\(t=a->e j))->a<=len->iE s l a=some o->o.to=some t->a<=t/\t<=len/\(t=a->∀j∈l,e j)
 | [],a,o,t,_,ha,h,ht=>by
  rw[iE]at h
  have:=Option.some.inj h
  subst this
  have:=Option.some.inj ht
  subst this
  exact⟨Nat.le_refl _,ha,fun _ j hj=>absurd hj (by simp)⟩
 | j :: l,a,o,t,hs,ha,h,ht=>by
  rw[iE]at h
  cases hj:s j a with
  | none=>rw[hj]at h;cases h
  | some p=>
   rw[hj]at h
   simp only at h
   cases hp:p.to with
   | none=>
    rw[hp]at h
    have:=Option.some.inj h
    subst this
    cases ht
   | some u=>
    rw[hp]at h
    simp only at h
    obtain⟨h1,h2,h3⟩:=hs j (List.mem_cons_self ..) a p u ha hj hp
    cases hl:iE s l u with
    | none=>rw[hl]at h;cases h
    | some q=>
     rw[hl]at h
     have:=Option.some.inj h
     subst this
     obtain⟨k1,k2,k3⟩:=L5 l u q t (fun x hx=>hs x (List.mem_cons_of_mem _ hx)) h2 hl ht
     refine⟨by omega,k2,fun ZN x hx=>?_⟩
     rcases List.mem_cons.1 hx with e' | e'
     ·subst e';exact h3 (by omega)
     ·exact k3 (by omega) x e'
theorem DM {len:Nat}{s:Nat->Option Ot}(hs:∀a p t,a<=len->s a=some p->p.to=some t->a<=t/\t<=len):∀f a o,a<=len->gy s f a=some o->∃t,o.to=some t/\a<=t/\t<=len
 | 0,_,_,_,h=>by cases h
 | f+1,a,o,ha,h=>by
  rw[gy]at h
  cases hj:s a with
  | none=>rw[hj]at h;cases h
  | some p=>
   rw[hj]at h
   simp only at h
   cases hp:p.to with
   | none=>
    rw[hp]at h
    have:=Option.some.inj h
    subst this
    exact⟨a,rfl,Nat.le_refl _,ha⟩
   | some u=>
    rw[hp]at h
    simp only at h
    obtain⟨h1,h2⟩:=hs a p u ha hj hp
    cases hl:gy s f u with
    | none=>rw[hl]at h;cases h
    | some q=>
     rw[hl]at h
     have:=Option.some.inj h
     subst this
     obtain⟨t,k1,k2,k3⟩:=DM hs f u q h2 hl
     exact⟨t,k1,by omega,k3⟩
theorem DZ {ns:List Nd}(hW:Wf ns){i:Nat}(hi:i<ns.length)(hk:6<=(ap ns i).kind):(ap ns i).subs=[(ap ns i).subs.getD 0 0]/\(ap ns i).subs.getD 0 0<i:=by
 obtain⟨x,hx⟩:=(be hW hi).one hk
 have:=(be hW hi).low x (by rw[hx];simp)
 rw[hx]
 exact⟨rfl,this⟩
theorem mN {b:Nat->Nat}{len:Nat}{rs:List Rl}{ns:List Nd}{S:Nat->Bool}(hW:lK ns rs)(hN:∀N∈ns,N.kind=3->(dg rs N.name).isSome=true)(hS:NE rs ns S):∀f i a dp o t,i<ns.length->a<=len->bR b len rs ns f i a dp=some o->o.to=some t->a<=t/\t<=len/\(t=a->cE rs ns S ns.length i=true)
 | 0,_,_,_,_,_,_,_,h,_=>by cases h
 | f+1,i,a,dp,o,t,hi,ha,h,ht=>by
  have ih:=mN (b:=b) (len:=len) hW hN hS f
  have ew:=(be hW.wf hi).low
  have fN:=(be hW.wf hi).kind
  have dL:=fun hk=>DZ hW.wf hi hk
  rw[P0 hW.wf S hi]
  rw[bR]at h
  split at h
  ·next hk=>
   have:=Option.some.inj h
   subst this
   have sq:mX b len (ap ns i) a=some t:=ht
   unfold mX at sq
   split at sq
   ·next h0=>
    split at sq
    ·next hl=>
     have:=Option.some.inj sq
     subst this
     unfold sY at hl
     rw[Bool.and_eq_true,decide_eq_true_eq]at hl
     refine⟨by omega,hl.1,fun he=>?_⟩
     unfold eV
     rw[if_pos h0]
     have:(ap ns i).text.length=0:=by omega
     rw[List.length_eq_zero_iff]at this
     rw[this];rfl
    ·cases sq
   ·split at sq
    ·next hc=>
     have:=Option.some.inj sq
     subst this
     exact⟨by omega,by omega,fun he=>absurd he (by omega)⟩
    ·cases sq
  next Cj=>
  split at h
  ·next hk=>
   cases hx:bR b len rs ns f (cL rs (dI rs (ap ns i))) a (dp+1) with
   | none=>rw[hx]at h;cases h
   | some p=>
    rw[hx]at h
    have:=Option.some.inj h
    subst this
    have hr:=gJ hN hi hk
    obtain⟨h1,h2,h3⟩:=ih _ a (dp+1) p t (dy hW hr) ha hx ht
    refine⟨h1,h2,fun he=>?_⟩
    unfold eV
    rw[if_neg (by omega),if_pos hk,hS.fix _ hr]
    exact h3 he
  next ux=>
  split at h
  ·next hk=>
   obtain⟨j,hj,p,hp,ia⟩:=Je _ _ h ht
   obtain⟨h1,h2,h3⟩:=ih j a dp p t (by have:=ew j hj;omega) ha hp ia
   refine⟨h1,h2,fun he=>?_⟩
   unfold eV
   rw[if_neg (by omega),if_neg (by omega),if_neg (by omega),if_pos (.inl hk)]
   exact List.any_eq_true.2 ⟨j,hj,h3 he⟩
  next co=>
  split at h
  ·next hk=>
   obtain⟨h1,h2,h3⟩:=L5 (len:=len) (e:=fun j=>cE rs ns S ns.length j=true) _ a o t (fun j hj a p t ha hp ia=>ih j a dp p t (by have:=ew j hj;omega) ha hp ia) ha h ht
   refine⟨h1,h2,fun he=>?_⟩
   unfold eV
   rw[if_neg (by omega),if_neg (by omega),if_neg (by omega),if_neg (by omega),if_pos hk]
   exact List.all_eq_true.2 (h3 he)
  next ff=>
  split at h
  ·next hk=>
   obtain⟨EX,OJ⟩:=dL (by omega)
   have hE:eV (ap ns i) (S (dI rs (ap ns i))) (cE rs ns S ns.length)=true:=by
    unfold eV;rw[if_neg (by omega),if_neg (by omega),if_pos (by omega)]
   cases hx:bR b len rs ns f ((ap ns i).subs.getD 0 0) a dp with
   | none=>rw[hx]at h;cases h
   | some p=>
    rw[hx]at h
    have:=Option.some.inj h
    subst this
    cases hp:p.to with
    | none=>
     simp[hp]at ht
     subst ht
     exact⟨Nat.le_refl _,ha,fun _=>hE⟩
    | some u=>
     simp[hp]at ht
     subst ht
     obtain⟨h1,h2,h3⟩:=ih _ a dp p u (by omega) ha hx hp
     exact⟨h1,h2,fun _=>hE⟩
  next lc=>
  split at h
  ·next hk=>
   obtain⟨EX,OJ⟩:=dL (by omega)
   have hE:eV (ap ns i) (S (dI rs (ap ns i))) (cE rs ns S ns.length)=true:=by
    unfold eV;rw[if_neg (by omega),if_neg (by omega),if_pos (by omega)]
   obtain⟨u,k1,k2,k3⟩:=DM (len:=len) (fun a p t ha hp ia=>by
    obtain⟨h1,h2,_⟩:=ih _ a dp p t (by omega) ha hp ia
    exact⟨h1,h2⟩) f a o ha h
   rw[k1]at ht
   have:=Option.some.inj ht
   subst this
   exact⟨k2,k3,fun _=>hE⟩
  next pC=>
  split at h
  ·next hk=>
   obtain⟨EX,OJ⟩:=dL (by omega)
   cases hx:bR b len rs ns f ((ap ns i).subs.getD 0 0) a dp with
   | none=>rw[hx]at h;cases h
   | some p=>
    rw[hx]at h
    simp only at h
    cases hp:p.to with
    | none=>
     rw[hp]at h
     have:=Option.some.inj h
     subst this
     cases ht
    | some u=>
     rw[hp]at h
     simp only at h
     obtain⟨h1,h2,h3⟩:=ih _ a dp p u (by omega) ha hx hp
     cases hl:gy (fun a=>bR b len rs ns f ((ap ns i).subs.getD 0 0) a dp) f u with
     | none=>rw[hl]at h;cases h
     | some q=>
      rw[hl]at h
      have:=Option.some.inj h
      subst this
      obtain⟨v,k1,k2,k3⟩:=DM (len:=len) (fun a p t ha hp ia=>by
       obtain⟨h1,h2,_⟩:=ih _ a dp p t (by omega) ha hp ia
       exact⟨h1,h2⟩) f u q h2 hl
      have sq:q.to=some t:=ht
      rw[k1]at sq
      have:=Option.some.inj sq
      subst this
      refine⟨by omega,k3,fun he=>?_⟩
      unfold eV
      rw[if_neg (by omega),if_neg (by omega),if_neg (by omega),if_pos (.inr hk),EX]
      simp only[List.any_cons,List.any_nil,Bool.or_false,List.getD_cons_zero]
      exact h3 (by omega)
  next ti=>
  obtain⟨EX,OJ⟩:=dL (by omega)
  have hE:eV (ap ns i) (S (dI rs (ap ns i))) (cE rs ns S ns.length)=true:=by
   unfold eV;rw[if_neg (by omega),if_neg (by omega),if_pos (by omega)]
  cases hx:bR b len rs ns f ((ap ns i).subs.getD 0 0) a dp with
  | none=>rw[hx]at h;cases h
  | some p=>
   rw[hx]at h
   have:=Option.some.inj h
   subst this
   have sq:(if p.to.isSome=decide ((ap ns i).kind=9) then some a else none)=some t:=ht
   split at sq
   ·have:=Option.some.inj sq
    subst this
    exact⟨Nat.le_refl _,ha,fun _=>hE⟩
   ·cases sq
def Dn (b:Nat->Nat)(len:Nat)(rs:List Rl)(ns:List Nd)(i a:Nat):Prop:=∀dp,∃f o,bR b len rs ns f i a dp=some o
theorem Ek {b:Nat->Nat}{len:Nat}{rs:List Rl}{ns:List Nd}{a dp:Nat}:∀l,(∀j∈l,∃f o,bR b len rs ns f j a dp=some o)->∃f o,iP (fun j=>bR b len rs ns f j a dp) l=some o
 | [],_=>⟨0,_,rfl⟩
 | j :: l,h=>by
  obtain⟨f1,o1,h1⟩:=h j (List.mem_cons_self ..)
  obtain⟨f2,o2,h2⟩:=Ek l (fun x hx=>h x (List.mem_cons_of_mem _ hx))
  refine⟨f1+f2,?_⟩
  rw[iP,jZ h1 (by omega)]
  simp only
  split
  ·exact⟨_,rfl⟩
  ·rw[tX (fun j o ho=>jZ ho (by omega)) l o2 h2]
   exact⟨_,rfl⟩
theorem FN {b:Nat->Nat}{len:Nat}{rs:List Rl}{ns:List Nd}{dp:Nat}(G:Nat->List Nat->Prop)(hG:∀a j l,G a (j :: l)->(∃f o,bR b len rs ns f j a dp=some o)/\∀f o t,bR b len rs ns f j a dp=some o->o.to=some t->G t l):∀l a,G a l->∃f o,iE (fun j a=>bR b len rs ns f j a dp) l a=some o
 | [],a,_=>⟨0,_,rfl⟩
 | j :: l,a,h=>by
  obtain⟨⟨f1,o1,h1⟩,h2⟩:=hG a j l h
  cases ho:o1.to with
  | none=>
   refine⟨f1,?_⟩
   rw[iE,h1]
   simp only[ho]
   exact⟨_,rfl⟩
  | some t=>
   obtain⟨f2,o2,h3⟩:=FN G hG l t (h2 f1 o1 t h1 ho)
   refine⟨f1+f2,?_⟩
   rw[iE,jZ h1 (by omega)]
   simp only[ho]
   rw[vd (fun j a o ho=>jZ ho (by omega)) l t o2 h3]
   exact⟨_,rfl⟩
theorem FH {b:Nat->Nat}{len:Nat}{rs:List Rl}{ns:List Nd}{x dp:Nat}(hp:∀f a o t,a<=len->bR b len rs ns f x a dp=some o->o.to=some t->a<t/\t<=len):∀n a,len-a<=n->a<=len->(∀a',a<=a'->a'<=len->∃f o,bR b len rs ns f x a' dp=some o)->∃f o,gy (fun a=>bR b len rs ns f x a dp) f a=some o:=by
 intro n
 induction n with
 | zero=>
  intro a hn ha h
  obtain⟨f,o,ho⟩:=h a (Nat.le_refl _) ha
  refine⟨f+1,?_⟩
  rw[gy,pS _ _ _ _ _ ho]
  simp only
  cases eQ:o.to with
  | none=>exact⟨_,rfl⟩
  | some t=>have:=hp f a o t ha ho eQ;omega
 | succ n ih=>
  intro a hn ha h
  obtain⟨f,o,ho⟩:=h a (Nat.le_refl _) ha
  cases eQ:o.to with
  | none=>
   refine⟨f+1,?_⟩
   rw[gy,pS _ _ _ _ _ ho]
   simp only[eQ]
   exact⟨_,rfl⟩
  | some t=>
   obtain⟨h1,h2⟩:=hp f a o t ha ho eQ
   obtain⟨g,q,hq⟩:=ih t (by omega) h2 (fun a' h3 h4=>h a' (by omega) h4)
   refine⟨f+g+1,?_⟩
   rw[gy,jZ ho (by omega)]
   simp only[eQ]
   rw[mU (fun a o ho=>jZ ho (by omega)) g (f+g) t q (by omega) hq]
   exact⟨_,rfl⟩
theorem CB {l:List Nat}{f g:Nat->Bool}(h:∀j∈l,f j=g j):l.any f=l.any g:=by
 rw[Bool.eq_iff_iff,List.any_eq_true,List.any_eq_true]
 exact⟨fun⟨j,hj,x⟩=>⟨j,hj,by rw[<-h j hj];exact x⟩,fun⟨j,hj,x⟩=>⟨j,hj,by rw[h j hj];exact x⟩⟩
theorem Fy {rs:List Rl}{ns:List Nd}(hW:Wf ns)(S:Nat->Bool):∀f g i,i<ns.length->i<f->i<g->rE rs ns S f i=rE rs ns S g i
 | 0,_,_,_,h,_=>absurd h (by omega)
 | _,0,_,_,_,h=>absurd h (by omega)
 | f+1,g+1,i,hi,hf,hg=>by
  rw[rE,rE]
  refine CB (fun j hj=>?_)
  have:=(be hW hi).low j hj
  rw[Fy hW S f g j (by omega) (by omega) (by omega)]
theorem oQ {rs:List Rl}{ns:List Nd}(hW:Wf ns){S:Nat->Bool}{i j:Nat}(hi:i<ns.length)(h:rE rs ns S ns.length i=false)(hj:j∈(ap ns i).subs):rE rs ns S ns.length j=false/\((ap ns i).kind=7\/(ap ns i).kind=8->cE rs ns S ns.length j=false):=by
 have ew:=(be hW hi).low j hj
 rw[Fy hW S ns.length (ns.length+1) i hi hi (by omega),rE,List.any_eq_false]at h
 have h1:=h j hj
 simp only[Bool.or_eq_true,Bool.and_eq_true,not_or,not_and,decide_eq_true_eq]at h1
 refine⟨by simpa using h1.2,fun hk=>by simpa using h1.1 hk⟩
theorem Bg.lt {rs:List Rl}{ns:List Nd}{S:Nat->Bool}(hW:Wf ns)(hN:∀N∈ns,N.kind=3->(dg rs N.name).isSome=true){i r:Nat}(h:Bg rs ns S i r):i<ns.length->r<rs.length:=by
 induction h with
 | name hk=>exact fun hi=>gJ hN hi hk
 | @sub i j r hj hk hb ih=>exact fun hi=>ih (by have:=(be hW hi).low j hj;omega)
 | @item i j r l m he hk hl hb ih=>exact fun hi=>ih (by have:=(be hW hi).low j (by rw[he];simp);omega)
structure gD (rs:List Rl)(ns:List Nd)(S:Nat->Bool):Prop where
 wf:lK ns rs
 nm:∀N∈ns,N.kind=3->(dg rs N.name).isSome=true
 ls:NE rs ns S
 no:∀r,r<rs.length->ko rs ns S r=false
theorem gD.rank {rs:List Rl}{ns:List Nd}{S:Nat->Bool}(h:gD rs ns S){r r':Nat}(hr:r<rs.length)(hb:Bg rs ns S (cL rs r) r'):l7 (m0 rs ns S) r'<l7 (m0 rs ns S) r:=by
 have hl:=h.wf.len
 have hi:=dy h.wf hr
 have tt:=hb.lt h.wf.wf h.nm hi
 have h1:=hb.told h.wf.wf ns.length (List.replicate 8 false) hi hi (by simp;omega)
 have h2:=h.no r' tt
 unfold ko at h2
 rw[Bool.or_eq_false_iff]at h2
 refine Ua (by omega) (by omega) ?_ h2.1
 unfold m0
 rw[decide_eq_true hr,Bool.true_and]
 exact h1
theorem Ha {b:Nat->Nat}{len:Nat}{rs:List Rl}{ns:List Nd}{S:Nat->Bool}(h:gD rs ns S):∀n a,len-a=n->a<=len->∀q i,i<ns.length->rE rs ns S ns.length i=false->(∀r,Bg rs ns S i r->l7 (m0 rs ns S) r<q)->Dn b len rs ns i a:=by
 intro n
 induction n using Nat.strongRecOn with
 | ind n ihn=>
 intro a hn ha q
 induction q using Nat.strongRecOn with
 | ind q ihq=>
 intro i
 induction i using Nat.strongRecOn with
 | ind i ihi=>
 intro hi KR qw dp
 have ew:=(be h.wf.wf hi).low
 have fN:=(be h.wf.wf hi).kind
 have dL:=fun hk=>DZ h.wf.wf hi hk
 have far:∀a' j,a<a'->a'<=len->j∈(ap ns i).subs->Dn b len rs ns j a':=fun a' j h1 h2 hj=>
  ihn (len-a') (by omega) a' rfl h2 9 j (by have:=ew j hj;omega) (oQ h.wf.wf hi KR hj).1 (fun r _=>by have:=uX (m0 rs ns S) r;omega)
 have YE:∀j,j∈(ap ns i).subs->(ap ns i).kind≠5->Dn b len rs ns j a:=fun j hj hk=>
  ihi j (ew j hj) (by have:=ew j hj;omega) (oQ h.wf.wf hi KR hj).1 (fun r hb=>qw r (Bg.sub hj hk hb))
 by_cases co:(ap ns i).kind<=2
 ·exact⟨1,_,by rw[bR,if_pos co]⟩
 by_cases ff:(ap ns i).kind=3
 ·have hr:=gJ h.nm hi ff
  have h1:=qw _ (Bg.name ff)
  have h2:=h.no _ hr
  unfold ko at h2
  rw[Bool.or_eq_false_iff]at h2
  obtain⟨f,o,ho⟩:=ihq _ h1 (cL rs (dI rs (ap ns i))) (dy h.wf hr) h2.2 (fun r hb=>h.rank hr hb) (dp+1)
  refine⟨f+1,?_⟩
  rw[bR,if_neg co,if_pos ff,ho]
  exact⟨_,rfl⟩
 by_cases lc:(ap ns i).kind=4
 ·obtain⟨f,o,ho⟩:=Ek (b:=b) (len:=len) (rs:=rs) (ns:=ns) (a:=a) (dp:=dp) (ap ns i).subs (fun j hj=>YE j hj (by omega) dp)
  exact⟨f+1,o,by rw[bR,if_neg co,if_neg ff,if_pos lc];exact ho⟩
 by_cases pC:(ap ns i).kind=5
 ·obtain⟨f,o,ho⟩:=FN (b:=b) (len:=len) (rs:=rs) (ns:=ns) (dp:=dp) (fun a' l=>a'<=len/\a<=a'/\∃pre,(ap ns i).subs=pre++l/\(a'=a->∀x∈pre,cE rs ns S ns.length x=true)) (fun a' j l hG=>by
    obtain⟨h1,h2,pre,h3,h4⟩:=hG
    have hj:j∈(ap ns i).subs:=by rw[h3];simp
    have C8:=ew j hj
    refine⟨?_,fun f o t ho ht=>?_⟩
    ·by_cases he:a'=a
     ·subst he
      exact ihi j C8 (by omega) (oQ h.wf.wf hi KR hj).1 (fun r hb=>qw r (Bg.item h3 pC (h4 rfl) hb)) dp
     ·exact far a' j (by omega) h1 hj dp
    ·obtain⟨k1,k2,k3⟩:=mN h.wf h.nm h.ls f j a' dp o t (by omega) h1 ho ht
     refine⟨k2,by omega,pre++[j],by rw[h3];simp,fun he x hx=>?_⟩
     rcases List.mem_append.1 hx with e | e
     ·exact h4 (by omega) x e
     ·rw[List.mem_singleton.1 e];exact k3 (by omega)) (ap ns i).subs a ⟨ha,Nat.le_refl _,[],by simp,fun _ x hx=>absurd hx (by simp)⟩
  exact⟨f+1,o,by rw[bR,if_neg co,if_neg ff,if_neg lc,if_pos pC];exact ho⟩
 obtain⟨EX,OJ⟩:=dL (by omega)
 have jY:(ap ns i).subs.getD 0 0∈(ap ns i).subs:=by rw[EX];simp
 obtain⟨f0,o0,UW⟩:=YE _ jY pC dp
 by_cases ti:(ap ns i).kind=6
 ·refine⟨f0+1,?_⟩
  rw[bR,if_neg co,if_neg ff,if_neg lc,if_neg pC,if_pos ti,UW]
  exact⟨_,rfl⟩
 by_cases hk78:(ap ns i).kind=7\/(ap ns i).kind=8
 ·have eW:=(oQ h.wf.wf hi KR jY).2 hk78
  have hp:∀f a o t,a<=len->bR b len rs ns f ((ap ns i).subs.getD 0 0) a dp=some o->o.to=some t->a<t/\t<=len:=fun f a o t ha ho ht=>by
   obtain⟨k1,k2,k3⟩:=mN h.wf h.nm h.ls f _ a dp o t (by omega) ha ho ht
   refine⟨?_,k2⟩
   rcases Nat.lt_or_eq_of_le k1 with e | e
   ·exact e
   ·rw[k3 e.symm]at eW;cases eW
  have sN:∀a',a<=a'->a'<=len->∃f o,bR b len rs ns f ((ap ns i).subs.getD 0 0) a' dp=some o:=fun a' h1 h2=>by
   by_cases he:a'=a
   ·subst he;exact⟨f0,o0,UW⟩
   ·exact far a' _ (by omega) h2 jY dp
  by_cases tj:(ap ns i).kind=7
  ·obtain⟨f,o,ho⟩:=FH hp (len-a) a (Nat.le_refl _) ha sN
   exact⟨f+1,o,by rw[bR,if_neg co,if_neg ff,if_neg lc,if_neg pC,if_neg ti,if_pos tj];exact ho⟩
  ·have lW:(ap ns i).kind=8:=by omega
   cases eQ:o0.to with
   | none=>
    refine⟨f0+1,?_⟩
    rw[bR,if_neg co,if_neg ff,if_neg lc,if_neg pC,if_neg ti,if_neg tj,if_pos lW,UW]
    simp only[eQ]
    exact⟨_,rfl⟩
   | some t=>
    obtain⟨h1,h2⟩:=hp f0 a o0 t ha UW eQ
    obtain⟨g,p,yF⟩:=FH hp (len-t) t (Nat.le_refl _) h2 (fun a' h3 h4=>sN a' (by omega) h4)
    refine⟨f0+g+1,?_⟩
    rw[bR,if_neg co,if_neg ff,if_neg lc,if_neg pC,if_neg ti,if_neg tj,if_pos lW,jZ UW (by omega)]
    simp only[eQ]
    rw[mU (fun a o ho=>jZ ho (by omega)) g (f0+g) t p (by omega) yF]
    exact⟨_,rfl⟩
 ·refine⟨f0+1,?_⟩
  rw[bR,if_neg co,if_neg ff,if_neg lc,if_neg pC,if_neg ti,if_neg (by omega),if_neg (by omega),UW]
  exact⟨_,rfl⟩
theorem Hs {b:Nat->Nat}{len:Nat}{rs:List Rl}{ns:List Nd}{S:Nat->Bool}(h:gD rs ns S){r a:Nat}(hr:r<rs.length)(ha:a<=len)(dp:Nat):∃f o,bR b len rs ns f (cL rs r) a dp=some o:=by
 have h2:=h.no r hr
 unfold ko at h2
 rw[Bool.or_eq_false_iff]at h2
 exact Ha h (len-a) a rfl ha 9 (cL rs r) (dy h.wf hr) h2.2 (fun r' _=>by have:=uX (m0 rs ns S) r';omega) dp
end Go.Proofs.YtagklnaaoclmhaaGreatDoor
