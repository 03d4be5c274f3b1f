import Derived.Test.YtagklnaaoclmhaaGreatDoorMnBC
import Derived.Test.YtagklnaaoclmhaaGreatDoorMnAS
set_option linter.unusedSimpArgs false
set_option linter.unusedVariables false
set_option maxRecDepth 100000
set_option maxHeartbeats 16000000
namespace Go.Proofs.YtagklnaaoclmhaaGreatDoor
open Go.RowKit
def Uv (v:Nd->Nat)(ns:List Nd)(i:Nat)(g:Nat->Nat):Nat:=
 if (ap ns i).kind=3 then v (ap ns i)
 else if (ap ns i).kind=4\/(ap ns i).kind=5\/(ap ns i).kind=6 then jg ((ap ns i).subs.map g)
 else 0
def aG (v:Nd->Nat)(ns:List Nd)(i:Nat):Nat:=fd (Uv v ns) ns.length i
theorem NK {v:Nd->Nat}{ns:List Nd}(hW:Wf ns):Ut (Uv v ns) ns.length:=fun i hi g g' h=>by
 have hl:=(be hW hi).low
 have:=kI (l:=(ap ns i).subs) (fun j hj=>h j (hl j hj))
 unfold Uv
 rw[this]
theorem IT {v:Nd->Nat}{ns:List Nd}(hW:Wf ns){i:Nat}(hi:i<ns.length):aG v ns i=Uv v ns i (aG v ns):=EC (NK hW) hi
theorem fL {ns l:List Nd}{i:Nat}(hi:i<ns.length):ap (ns++l) i=ap ns i:=by
 unfold ap
 rw[List.getD_eq_getElem?_getD,List.getD_eq_getElem?_getD,List.getElem?_append_left hi]
theorem ik (ns:List Nd)(N:Nd):ap (ns++[N]) ns.length=N:=by
 unfold ap
 rw[List.getD_eq_getElem?_getD,List.getElem?_append_right (Nat.le_refl _)]
 simp
theorem Wf.pre {ns l:List Nd}(h:Wf (ns++l)):Wf ns:=fun i N hN=>h i N (by
 have:i<ns.length:=by
  rcases Nat.lt_or_ge i ns.length with h1 | h1
  ·exact h1
  ·rw[List.getElem?_eq_none h1]at hN;cases hN
 rw[List.getElem?_append_left this];exact hN)
theorem yc {v:Nd->Nat}{ns l:List Nd}(hW:Wf (ns++l)):∀i,i<ns.length->aG v (ns++l) i=aG v ns i:=by
 intro i
 induction i using Nat.strongRecOn with
 | ind i ih=>
 intro hi
 have hl:=(be hW.pre hi).low
 rw[IT hW (by rw[List.length_append];omega),IT hW.pre hi]
 unfold Uv
 rw[fL hi]
 have:=kI (l:=(ap ns i).subs) (g:=aG v (ns++l)) (g':=aG v ns) (fun j hj=>ih j (hl j hj) (by have:=hl j hj;omega))
 rw[this]
def zd (v:Nd->Nat)(ns:List Nd):Nat:=cx (fun i=>if (ap ns i).kind=3 then v (ap ns i) else 0) ns.length
def DL (v:Nd->Nat)(ns:List Nd):Nat:=cx (fun k=>if lu ns k then aG v ns (lP ns k) else 0) ns.length
theorem lw {f g:Nat->Nat}:∀n,(∀i,i<n->f i=g i)->cx f n=cx g n
 | 0,_=>rfl
 | n+1,h=>by simp only[cx];rw[lw n (fun i hi=>h i (by omega)),h n (by omega)]
theorem uP (v:Nd->Nat)(ns:List Nd)(N:Nd):zd v (ns++[N])=zd v ns+if N.kind=3 then v N else 0:=by
 unfold zd
 rw[List.length_append,List.length_singleton]
 simp only[cx]
 rw[ik,lw ns.length (fun i hi=>by rw[fL hi])]
theorem LO (v:Nd->Nat){ns:List Nd}{N:Nd}(hW:Wf (ns++[N])):DL v (ns++[N])=DL v ns+if N.kind=7\/N.kind=8 then aG v ns (N.subs.getD 0 0) else 0:=by
 have hW0:=hW.pre
 unfold DL
 rw[List.length_append,List.length_singleton]
 simp only[cx]
 have h1:cx (fun k=>if lu (ns++[N]) k=true then aG v (ns++[N]) (lP (ns++[N]) k) else 0) ns.length=cx (fun k=>if lu ns k=true then aG v ns (lP ns k) else 0) ns.length:=lw _ (fun k hk=>by
  have e1:lu (ns++[N]) k=lu ns k:=by unfold lu;rw[fL hk]
  have e2:lP (ns++[N]) k=lP ns k:=by unfold lP;rw[fL hk]
  rw[e1,e2]
  by_cases hr:lu ns k=true
  ·rw[if_pos hr,if_pos hr]
   have fN:6<=(ap ns k).kind:=by unfold lu at hr;simp at hr;omega
   have:=(DZ hW0 hk fN).2
   exact yc hW _ (by unfold lP;omega)
  ·rw[if_neg hr,if_neg hr])
 rw[h1]
 congr 1
 have e3:lu (ns++[N]) ns.length=decide (N.kind=7\/N.kind=8):=by unfold lu;rw[ik]
 have e4:lP (ns++[N]) ns.length=N.subs.getD 0 0:=by unfold lP;rw[ik]
 rw[e3,e4]
 by_cases hk:N.kind=7\/N.kind=8
 ·rw[if_pos (by simpa using hk),if_pos hk]
  have h2:=(be hW (i:=ns.length) (by simp)).one
  have h3:=(be hW (i:=ns.length) (by simp)).low
  rw[ik]at h2 h3
  obtain⟨x,hx⟩:=h2 (by omega)
  have:=h3 (N.subs.getD 0 0) (by rw[hx];simp)
  exact yc hW _ this
 ·rw[if_neg (by simpa using hk),if_neg hk]
structure Fq (v:Nd->Nat)(A:St)(X:St × Nat):Prop where
 ww:Ww A X
 ext:∃l,X.1.ns=A.ns++l
 wt:aG v X.1.ns X.2+DL v X.1.ns+zd v A.ns<=zd v X.1.ns+DL v A.ns
theorem Fq.push {v:Nd->Nat}{A B:St}{N:Nd}{c:Nat}(hw:Wf B.ns)(hN:sD B.ns.length N)(hl:A.ns.length<=B.ns.length)(hx:∃l,B.ns=A.ns++l)(h:c+DL v B.ns+zd v A.ns<=zd v B.ns+DL v A.ns)(hc:N.kind≠3->(if N.kind=4\/N.kind=5\/N.kind=6 then jg (N.subs.map (aG v B.ns)) else 0)+(if N.kind=7\/N.kind=8 then aG v B.ns (N.subs.getD 0 0) else 0)<=c):Fq v A (aP B N):=by
 have UH:=hw.push hN
 obtain⟨l,Oo⟩:=hx
 refine⟨⟨UH,by simp[aP],by simp[aP];omega⟩,⟨l++[N],by show B.ns++[N]=_;rw[Oo,List.append_assoc]⟩,?_⟩
 show aG v (B.ns++[N]) B.ns.length+DL v (B.ns++[N])+zd v A.ns<=zd v (B.ns++[N])+DL v A.ns
 rw[LO v UH,uP]
 have h1:aG v (B.ns++[N]) B.ns.length=if N.kind=3 then v N else if N.kind=4\/N.kind=5\/N.kind=6 then jg (N.subs.map (aG v B.ns)) else 0:=by
  rw[IT UH (by simp)]
  unfold Uv
  rw[ik]
  have:=kI (l:=N.subs) (g:=aG v (B.ns++[N])) (g':=aG v B.ns) (fun j hj=>yc UH j (hN.low j hj))
  rw[this]
 rw[h1]
 by_cases h3:N.kind=3
 ·rw[if_pos h3,if_pos h3,if_neg (by omega)]
  omega
 ·rw[if_neg h3,if_neg h3]
  have:=hc h3
  omega
def gU (v:Nd->Nat)(ch:St->St × Nat):Prop:=∀A,Wf A.ns->Fq v A (ch A)
theorem Fq.plain {v:Nd->Nat}{A:St}(g:Sc)(h:Wf A.ns)(N:Nd)(h1:N.subs=[])(h2:N.kind<=5):Fq v A (aP { A with sc:=g } N):=
 Fq.push (B:={ A with sc:=g }) (c:=0) h (mQ h1 h2) (Nat.le_refl _) ⟨[],by simp⟩ (by show 0+DL v A.ns+zd v A.ns<=zd v A.ns+DL v A.ns;omega) (fun _=>by
  rw[h1,if_neg (show ¬(N.kind=7\/N.kind=8) by omega)]
  split <;> simp[jg])
theorem TY {s:ByteArray}{v:Nd->Nat}{ch:St->St × Nat}(dH:gU v ch):gU v (aR s ch):=by
 intro A h
 unfold aR
 split
 ·exact Fq.plain _ h _ rfl (by first | decide | (dsimp only;omega))
 ·split
  ·exact Fq.plain _ h _ rfl (by first | decide | (dsimp only;omega))
  ·split
   ·exact Fq.plain _ h _ rfl (by first | decide | (dsimp only;omega))
   ·split
    ·exact Fq.plain _ h _ rfl (by first | decide | (dsimp only;omega))
    ·split
     ·have:=dH { A with sc:=ez (bl s A.sc) } h
      exact⟨⟨this.ww.wf,this.ww.lt,this.ww.le⟩,this.ext,this.wt⟩
     ·exact Fq.plain _ h _ rfl (by first | decide | (dsimp only;omega))
theorem Fq.one {v:Nd->Nat}{A:St}{X:St × Nat}(h:Fq v A X)(g:Sc){k:Nat}(hk:k<=10)(pC:6<=k):Fq v A (aP { X.1 with sc:=g } { cj with kind:=k,subs:=[X.2] }):=
 Fq.push (B:={ X.1 with sc:=g }) (c:=aG v X.1.ns X.2) h.ww.wf (mR h.ww.lt hk) h.ww.le h.ext h.wt (fun _=>by
  show (if k=4\/k=5\/k=6 then jg ([X.2].map (aG v X.1.ns)) else 0)+(if k=7\/k=8 then aG v X.1.ns ([X.2].getD 0 0) else 0)<=_
  simp only[List.map_cons,List.map_nil,jg,List.getD_cons_zero]
  repeat' split
  all_goals omega)
theorem Du {s:ByteArray}{v:Nd->Nat}{ch:St->St × Nat}(dH:gU v ch):gU v (bP s ch):=by
 intro A h
 have yM:=TY (s:=s) dH { A with sc:=bn s A.sc } h
 have hp:Fq v A (aR s ch { A with sc:=bn s A.sc }):=⟨⟨yM.ww.wf,yM.ww.lt,yM.ww.le⟩,yM.ext,yM.wt⟩
 clear yM
 unfold bP
 generalize aR s ch { A with sc:=bn s A.sc }=X at *
 have hr:Fq v A (cG s X):=by
  unfold cG
  split
  ·next hk=>
   have gf:bm (pk s (bl s X.1.sc))<=10/\6<=bm (pk s (bl s X.1.sc)):=by revert hk;unfold bm;(repeat' split) <;> omega
   exact hp.one _ gf.1 gf.2
  ·exact⟨⟨hp.ww.wf,hp.ww.lt,hp.ww.le⟩,hp.ext,hp.wt⟩
 generalize cG s X=R at *
 unfold eG
 split
 ·next hk=>
  have gf:cY s A.sc<=10/\6<=cY s A.sc:=by revert hk;unfold cY;(repeat' split) <;> omega
  exact hr.one R.1.sc gf.1 gf.2
 ·exact hr
structure Fl (v:Nd->Nat)(A B:St)(L:List Nat):Prop where
 wf:Wf B.ns
 lt:∀j∈L,j<B.ns.length
 ext:∃l,B.ns=A.ns++l
 wt:jg (L.map (aG v B.ns))+DL v B.ns+zd v A.ns<=zd v B.ns+DL v A.ns
theorem Pu (l m:List Nat):jg (l++m)=jg l+jg m:=by
 induction l with
 | nil=>simp[jg]
 | cons x l ih=>simp only[List.cons_append,jg];omega
theorem Fl.snoc {v:Nd->Nat}{A B:St}{L:List Nat}{X:St × Nat}(h:Fl v A B L)(k:Fq v B X):Fl v A X.1 (L++[X.2]):=by
 obtain⟨l,hl⟩:=h.ext
 obtain⟨m,hm⟩:=k.ext
 refine⟨k.ww.wf,fun j hj=>?_,⟨l++m,by rw[hm,hl,List.append_assoc]⟩,?_⟩
 ·rcases List.mem_append.1 hj with h1 | h1
  ·have:=h.lt j h1;have:=k.ww.le;omega
  ·simp at h1;rw[h1];exact k.ww.lt
 ·have hW:Wf (B.ns++m):=by rw[<-hm];exact k.ww.wf
  have e:L.map (aG v X.1.ns)=L.map (aG v B.ns):=List.map_congr_left (fun j hj=>by rw[hm];exact yc hW j (h.lt j hj))
  rw[List.map_append,Pu,e]
  simp only[List.map_cons,List.map_nil,jg]
  have:=h.wt
  have:=k.wt
  omega
theorem Fl.sc {v:Nd->Nat}{A B:St}{L:List Nat}(h:Fl v A B L)(g:Sc):Fl v A { B with sc:=g } L:=⟨h.wf,h.lt,h.ext,h.wt⟩
theorem LU {s:ByteArray}{v:Nd->Nat}{ch:St->St × Nat}(dH:gU v ch){A0:St}:∀f acc A,Fl v A0 A acc->Fl v A0 (dk s ch f acc A).1 (dk s ch f acc A).2
 | 0,acc,A,h=>h
 | f+1,acc,A,h=>by
  have hp:=h.snoc (Du (s:=s) dH A h.wf)
  rw[dk]
  generalize bP s ch A=X at *
  split
  ·exact hp.sc _
  ·exact LU dH f _ _ (hp.sc _)
theorem Fl.nil {v:Nd->Nat}{A:St}(h:Wf A.ns):Fl v A A []:=⟨h,by simp,⟨[],by simp⟩,by simp only[List.map_nil,jg];omega⟩
theorem Fl.node {v:Nd->Nat}{A B:St}{L:List Nat}(h:Fl v A B L){k:Nat}(hk:k=4\/k=5):Fq v A (aP B { cj with kind:=k,subs:=L }):=by
 obtain⟨l,hl⟩:=h.ext
 refine Fq.push (c:=jg (L.map (aG v B.ns))) h.wf ⟨h.lt,fun x=>absurd (show 6<=k from x) (by omega),by show k<=10;omega⟩ (by rw[hl,List.length_append];omega) h.ext h.wt (fun _=>?_)
 show (if k=4\/k=5\/k=6 then jg (L.map (aG v B.ns)) else 0)+(if k=7\/k=8 then aG v B.ns (L.getD 0 0) else 0)<=_
 rw[if_pos (by omega),if_neg (by omega)]
 omega
theorem LY {s:ByteArray}{v:Nd->Nat}{ch:St->St × Nat}(dH:gU v ch):gU v (eT s ch):=fun A h=>(LU dH (s.size+3) [] A (Fl.nil h)).node (.inr rfl)
theorem Jo {s:ByteArray}{v:Nd->Nat}{ch:St->St × Nat}(dH:gU v ch){A0:St}:∀f acc A,Fl v A0 A acc->Fl v A0 (dD s ch f acc A).1 (dD s ch f acc A).2
 | 0,acc,A,h=>h
 | f+1,acc,A,h=>by
  have hp:=h.snoc (LY (s:=s) dH A h.wf)
  rw[dD]
  generalize eT s ch A=X at *
  split
  ·exact Jo dH f _ _ (hp.sc _)
  ·exact hp.sc _
theorem Wd {s:ByteArray}{v:Nd->Nat}{ch:St->St × Nat}(dH:gU v ch):gU v (jU s ch):=fun A h=>(Jo dH (s.size+3) [] A (Fl.nil h)).node (.inl rfl)
theorem tY (s:ByteArray)(v:Nd->Nat):∀d,gU v (dw s d)
 | 0=>fun A h=>Fq.plain A.sc h cj rfl (by decide)
 | d+1=>Wd (tY s v d)
theorem FB {s:ByteArray}{v:Nd->Nat}{A0:St}:∀f X rs,Fl v A0 X (rs.map Rl.is)->Fl v A0 (cX s f X rs).1 ((cX s f X rs).2.map Rl.is)
 | 0,X,rs,h=>h
 | f+1,X,rs,h=>by
  rw[cX]
  split
  ·split
   ·exact h.sc _
   ·refine FB f _ _ ?_
    have h1:Fl v A0 { X with sc:=mu s (bz s X.sc).2 61 } (rs.map Rl.is):=h.sc _
    have h2:=h1.snoc (tY s v 6 { X with sc:=mu s (bz s X.sc).2 61 } h1.wf)
    rw[List.map_append]
    exact h2.sc _
  ·exact h
theorem T8 (s:ByteArray)(v:Nd->Nat):jg (((aq s).2.map Rl.is).map (aG v (aq s).1.ns))+DL v (aq s).1.ns<=zd v (aq s).1.ns:=by
 have h:=FB (s:=s) (v:=v) 10 ⟨⟨0,-1,0,0⟩,[]⟩ [] (Fl.nil Wf.nil)
 have h1:=h.wt
 have h2:zd v []=0:=rfl
 have h3:DL v []=0:=rfl
 unfold aq
 dsimp only at h1
 omega
theorem vg (f:Nat->Nat):∀n,cx f (n+1)=f 0+cx (fun i=>f (i+1)) n
 | 0=>by simp[cx]
 | n+1=>by
  rw[cx,vg f n,cx]
  omega
theorem BP (g:Nat->Nat):∀l:List Nat,cx (fun r=>g (l.getD r 0)) l.length=jg (l.map g)
 | []=>rfl
 | x :: l=>by
  rw[List.length_cons,vg,List.map_cons,jg]
  have:=BP g l
  simp only[List.getD_cons_zero,List.getD_cons_succ]
  omega
theorem Bx (s:ByteArray)(w:Nat->Nat):xT (aq s).2 (aq s).1.ns w<=xI (aq s).2 (aq s).1.ns w:=by
 have h:=T8 s (fun N=>w (dI (aq s).2 N))
 have h1:=BP (aG (fun N=>w (dI (aq s).2 N)) (aq s).1.ns) ((aq s).2.map Rl.is)
 rw[List.length_map]at h1
 have h2:cx (fun r=>aE (aq s).2 (aq s).1.ns w (cL (aq s).2 r)) (aq s).2.length=jg (((aq s).2.map Rl.is).map (aG (fun N=>w (dI (aq s).2 N)) (aq s).1.ns)):=h1
 unfold xT
 rw[h2]
 exact h
def IC (s:ByteArray)(k:Nat):Bool:=bL ((am s k:Nat):Int)
def pd (s:ByteArray)(g:Sc):Nat:=if 0<g.at_/\IC s (g.at_-1)=true then 1 else 0
def Bd (s:ByteArray)(g:Sc):Prop:=pd s g=1->bL ((pk s g:Nat):Int)=false
theorem lI (s:ByteArray)(g:Sc):pd s g<=1:=by unfold pd;split <;> omega
theorem Fu {s:ByteArray}{g h:Sc}(e:g.at_=h.at_):pd s g=pd s h:=by unfold pd;rw[e]
theorem Bd.of0 {s:ByteArray}{g:Sc}(h:pd s g=0):Bd s g:=fun x=>by omega
theorem u9 {s:ByteArray}:∀f k,dh s f k≠k->k<dh s f k/\am s (dh s f k-1)=32
 | 0,k,h=>absurd rfl h
 | f+1,k,h=>by
  rw[dh]at h ⊢
  split
  ·next hc=>
   rw[if_pos hc]at h
   by_cases e:dh s f (k+1)=k+1
   ·rw[e];exact⟨by omega,by simpa using hc.2⟩
   ·obtain⟨h1,h2⟩:=u9 f (k+1) e
    exact⟨by omega,h2⟩
  ·next hc=>rw[if_neg hc]at h;exact absurd rfl h
theorem PZ (s:ByteArray)(g:Sc):(bl s g).at_=g.at_/\pd s (bl s g)=pd s g\/g.at_<(bl s g).at_/\pd s (bl s g)=0:=by
 by_cases e:(bl s g).at_=g.at_
 ·exact .inl ⟨e,Fu e⟩
 ·right
  unfold bl at e ⊢
  split at e
  ·next hb=>
   rw[if_pos hb]
   obtain⟨h1,h2⟩:=u9 _ _ e
   refine⟨h1,?_⟩
   unfold pd IC
   dsimp only
   rw[if_neg (fun x=>?_)]
   have x2:=x.2
   rw[h2]at x2
   revert x2;decide
  ·exact absurd rfl e
theorem tW (s:ByteArray)(g:Sc):g.at_+pd s g<=(bl s g).at_+pd s (bl s g)/\g.at_<=(bl s g).at_/\(pd s g=0->pd s (bl s g)=0):=by
 have:=lI s g
 rcases PZ s g with⟨h1,h2⟩ | ⟨h1,h2⟩
 ·exact⟨by omega,by omega,fun x=>by omega⟩
 ·exact⟨by omega,by omega,fun _=>h2⟩
theorem Bd.bl {s:ByteArray}{g:Sc}(h:Bd s g):Bd s (bl s g):=by
 rcases PZ s g with⟨h1,h2⟩ | ⟨h1,h2⟩
 ·intro x
  have h3:=h (by omega)
  have e:pk s (Go.Proofs.YtagklnaaoclmhaaGreatDoor.bl s g)=pk s g:=by unfold pk;rw[h1,ed]
  rw[e];exact h3
 ·exact .of0 h2
theorem qO {s:ByteArray}{g:Sc}(h:IC s g.at_=false):pd s (bM g)=0:=by
 unfold pd
 rw[if_neg (fun x=>?_)]
 have x2:=x.2
 rw[bZ,Nat.add_sub_cancel,h]at x2
 cases x2
theorem FM {s:ByteArray}{g:Sc}{c:Nat}(h:il s g c=true)(hc:bL ((c:Nat):Int)=false):pd s (sg s g c)=0/\(sg s g c).at_=(bl s g).at_+1:=by
 have h1:am s (bl s g).at_=c:=by
  unfold il at h
  simp only[Bool.and_eq_true,beq_iff_eq]at h
  exact h.2
 unfold sg
 rw[if_pos h]
 exact⟨qO (by unfold IC;rw[h1];exact hc),bZ _⟩
theorem QO {s:ByteArray}{g:Sc}{c:Nat}(h:il s g c=false):sg s g c=bl s g:=by unfold sg;rw[h];rfl
theorem Lr {s:ByteArray}{g:Sc}{c:Nat}(h:(mu s g c).bad<0)(hc:bL ((c:Nat):Int)=false):pd s (mu s g c)=0/\(mu s g c).at_=(bl s g).at_+1:=by
 obtain⟨h1,h2,h3⟩:=Fi h
 rw[h3]
 exact FM h1 hc
theorem YR {s:ByteArray}:∀f acc g,Iv s g->acc.length<=8->acc.length+f=10->(acc≠[]->0<g.at_/\IC s (g.at_-1)=true)->(wd s f acc g).2.bad<0->0<(wd s f acc g).2.at_/\IC s ((wd s f acc g).2.at_-1)=true/\bL ((pk s (wd s f acc g).2:Nat):Int)=false
 | 0,acc,g,_,h8,hf,_,_=>absurd hf (by omega)
 | f+1,acc,g,hi,h8,hf,ha,hb=>by
  rw[wd]at hb ⊢
  have hw:=ii g
  cases hl:bL (pk s g:Int)
  ·rw[hl]at hb
   simp only[Bool.false_eq_true,if_false]at hb ⊢
   by_cases hn:acc=[]
   ·rw[if_pos hn]at hb
    have jq:(wr g).bad<0:=hb
    omega
   ·rw[if_neg hn]
    obtain⟨h1,h2⟩:=ha hn
    exact⟨h1,h2,hl⟩
  ·rw[hl]at hb
   simp only[if_true]at hb ⊢
   obtain⟨p1,p2,p3⟩:=cT (jO hl)
   by_cases h9:acc.length=8
   ·rw[if_pos h9]at hb
    have jq:(wr g).bad<0:=hb
    omega
   ·rw[if_neg h9]at hb ⊢
    refine YR f (acc++[(pk s g).toUInt8]) (bM g) (hi.adv p2) (by simp;omega) (by simp;omega) (fun _=>?_) hb
    rw[bZ,Nat.add_sub_cancel]
    exact⟨by omega,by unfold IC;rw[<-p3];exact hl⟩
theorem Gb {s:ByteArray}{g:Sc}(h:bL ((pk s g:Nat):Int)=true):bl s g=g:=by
 obtain⟨p1,p2,p3⟩:=cT (jO h)
 have h32:am s g.at_≠32:=fun e=>by rw[p3,e]at h;revert h;decide
 unfold bl
 rw[if_pos p1,vc (fun x=>h32 x.2)]
theorem PD {s:ByteArray}{g:Sc}(hi:Iv s g)(hl:bL ((pk s g:Nat):Int)=true)(hb:(bz s g).2.bad<0):g.at_<(bz s g).2.at_/\pd s (bz s g).2=1/\Bd s (bz s g).2:=by
 have h1:=(gN hi).2.2 hb
 have iB:=Gb hl
 have h2:=YR (s:=s) 10 [] (bl s g) hi.bl (by simp) (by simp) (fun x=>absurd rfl x) hb
 refine⟨h1,?_,fun _=>h2.2.2⟩
 show pd s (wd s 10 [] (bl s g)).2=1
 unfold pd
 rw[if_pos ⟨h2.1,h2.2.1⟩]
def TL (ns:List Nd):Nat:=cx (fun i=>if (ap ns i).kind=5/\(ap ns i).subs.all (fun j=>decide ((ap ns j).kind≠3))=true then 1 else 0) ns.length
def fQ (ns:List Nd):Nat:=2*zd (fun _=>1) ns+TL ns
theorem tQ {l:List Nat}{p q:Nat->Bool}(h:∀j∈l,p j=q j):l.all p=l.all q:=by
 rw[Bool.eq_iff_iff,List.all_eq_true,List.all_eq_true]
 exact⟨fun x j hj=>by rw[<-h j hj];exact x j hj,fun x j hj=>by rw[h j hj];exact x j hj⟩
theorem Bf {ns:List Nd}{N:Nd}(hW:Wf (ns++[N])):TL (ns++[N])=TL ns+if N.kind=5/\N.subs.all (fun j=>decide ((ap ns j).kind≠3))=true then 1 else 0:=by
 unfold TL
 rw[List.length_append,List.length_singleton]
 simp only[cx]
 have h1:cx (fun i=>if (ap (ns++[N]) i).kind=5/\(ap (ns++[N]) i).subs.all (fun j=>decide ((ap (ns++[N]) j).kind≠3))=true then 1 else 0) ns.length=cx (fun i=>if (ap ns i).kind=5/\(ap ns i).subs.all (fun j=>decide ((ap ns j).kind≠3))=true then 1 else 0) ns.length:=lw _ (fun i hi=>by
  have hl:=(be hW.pre hi).low
  rw[fL hi,tQ (q:=fun j=>decide ((ap ns j).kind≠3)) (fun j hj=>by rw[fL (by have:=hl j hj;omega)])])
 have h2:=(be hW (i:=ns.length) (by simp)).low
 rw[ik]at h2
 rw[h1,ik,tQ (q:=fun j=>decide ((ap ns j).kind≠3)) (fun j hj=>by rw[fL (h2 j hj)])]
theorem pV {ns:List Nd}{N:Nd}(hW:Wf (ns++[N]))(h5:N.kind≠5):fQ (ns++[N])=fQ ns+if N.kind=3 then 2 else 0:=by
 unfold fQ
 rw[uP,Bf hW]
 simp only[h5,false_and,if_false]
 split <;> omega
def o5 (s:ByteArray)(ch:St->St × Nat)(d:Nat):Prop:=∀A,Iv s A.sc->5<=A.sc.op+d->Wf A.ns->pd s A.sc=0->(ch A).1.sc.bad<0->fQ (ch A).1.ns+A.sc.at_<=fQ A.ns+(ch A).1.sc.at_+1
structure Pq (s:ByteArray)(A:St)(g0:Sc)(X:St × Nat):Prop where
 phi:fQ X.1.ns+g0.at_+pd s g0<=fQ A.ns+X.1.sc.at_+pd s X.1.sc
 bd:Bd s X.1.sc
 non:(ap X.1.ns X.2).kind≠3->pd s X.1.sc=0
theorem uS {s:ByteArray}{A:St}{g0 g:Sc}{N:Nd}(hW:Wf A.ns)(h1:N.subs=[])(h2:N.kind<=2)(dA:g0.at_+1<=g.at_)(hp:pd s g=0):Pq s A g0 (aP { A with sc:=g } N):=by
 have hw:Wf (A.ns++[N]):=hW.push (mQ h1 (by omega))
 have h3:=pV hw (by omega)
 rw[if_neg (by omega)]at h3
 have:=lI s g0
 refine⟨?_,.of0 hp,fun _=>hp⟩
 show fQ (A.ns++[N])+g0.at_+pd s g0<=fQ A.ns+g.at_+pd s g
 omega
theorem TV {s:ByteArray}{ch:St->St × Nat}{d:Nat}(hg:d=0\/eN s ch (d-1))(ho:d=0\/o5 s ch (d-1))(hk:∀A,0<d->(ap (ch A).1.ns (ch A).2).kind=4)(A:St)(hi:Iv s A.sc)(hd:5<=A.sc.op+d)(hW:Wf A.ns)(hB:Bd s (bl s A.sc))(hb:(aR s ch A).1.sc.bad<0):Pq s A (bl s A.sc) (aR s ch A):=by
 have rx:=ip s A.sc
 revert hb
 unfold aR
 split
 ·next hl=>
  intro hb
  have jq:(bz s (bl s A.sc)).2.bad<0:=hb
  obtain⟨h1,h2,h3⟩:=PD hi.bl hl jq
  have yM:pd s (bl s A.sc)=0:=by
   have:=lI s (bl s A.sc)
   rcases Nat.lt_or_ge (pd s (bl s A.sc)) 1 with h4 | h4
   ·omega
   ·have:=hB (by omega);rw[hl]at this;cases this
  obtain⟨N,hN⟩:∃N:Nd,N={ cj with kind:=3,name:=(bz s (bl s A.sc)).1,at_:=(bl s A.sc).at_ }:=⟨_,rfl⟩
  rw[<-hN]
  have ff:N.kind=3:=by rw[hN]
  have hw:Wf (A.ns++[N]):=hW.push (mQ (by rw[hN];rfl) (by omega))
  have h5:=pV hw (by omega)
  rw[if_pos ff]at h5
  refine⟨?_,h3,fun x=>absurd ?_ x⟩
  ·show fQ (A.ns++[N])+(bl s A.sc).at_+pd s (bl s A.sc)<=fQ A.ns+(bz s (bl s A.sc)).2.at_+pd s (bz s (bl s A.sc)).2
   omega
  ·show (ap (A.ns++[N]) A.ns.length).kind=3
   rw[ik];exact ff
 ·split
  ·next yu=>
   intro hb
   obtain⟨p1,p2,p3⟩:=cT (s:=s) (g:=bl s A.sc) (by omega)
   refine uS hW rfl (by show 2<=2;omega) (by rw[jB];omega) ?_
   have e:pd s (tm (bl s A.sc))=pd s (bM (bl s A.sc)):=Fu (by rw[jB,bZ])
   rw[e]
   exact qO (by unfold IC;rw[<-p3,yu];decide)
  ·split
   ·next h39=>
    intro hb
    obtain⟨p1,p2,p3⟩:=cT (s:=s) (g:=bl s A.sc) (by omega)
    have jq:(fP s (s.size+2) [] (tm (bl s A.sc))).2.bad<0:=hb
    have yP:(tm (bl s A.sc)).at_<=s.size:=by rw[jB];omega
    have:=fW s (tm (bl s A.sc))
    obtain⟨q1,q2,q3,q4,q5,q6⟩:=oM (s:=s) (s.size+2) [] (tm (bl s A.sc)) (qj hi.bl p2) (by omega)
    obtain⟨q7,q8⟩:=q5 jq
    obtain⟨r1,r2,r3⟩:=cT (s:=s) (g:=(fP s (s.size+2) [] (tm (bl s A.sc))).2) (by omega)
    rw[jB]at q2
    refine uS hW rfl (by show 0<=2;omega) (by show _<=(bM _).at_;rw[bZ];omega) ?_
    exact qO (by unfold IC;rw[<-r3,q8];decide)
   ·split
    ·next h91=>
     intro hb
     obtain⟨p1,p2,p3⟩:=cT (s:=s) (g:=bl s A.sc) (by omega)
     have jq:(ef s (s.size+2) true (tm (bl s A.sc))).2.bad<0:=hb
     have:=fW s (tm (bl s A.sc))
     obtain⟨q1,q2,q3,q4,q5⟩:=oR (s:=s) (s.size+2) true (tm (bl s A.sc)) (qj hi.bl p2) (by omega)
     obtain⟨q7,q8⟩:=q5 jq
     obtain⟨r1,r2,r3⟩:=cT (s:=s) (g:=(ef s (s.size+2) true (tm (bl s A.sc))).2) (by omega)
     rw[jB]at q2
     refine uS hW rfl (by show 1<=2;omega) (by show _<=(bM _).at_;rw[bZ];omega) ?_
     exact qO (by unfold IC;rw[<-r3,q8];decide)
    ·split
     ·next hc=>
      intro hb
      have Ke:d≠0:=by have:=hc.2;omega
      have hpp:=cT (s:=s) (g:=bl s A.sc) (by omega)
      have AD:Iv s (ez (bl s A.sc)):=⟨fun _=>by simp[ez];omega,by simp[ez];omega⟩
      have tf:5<=(ez (bl s A.sc)).op+(d-1):=by dsimp only[ez];omega
      have OH:pd s (ez (bl s A.sc))=0:=by
       have e:pd s (ez (bl s A.sc))=pd s (bM (bl s A.sc)):=Fu rfl
       rw[e]
       exact qO (by unfold IC;rw[<-hpp.2.2,hc.1];decide)
      have h1:=ho.resolve_left Ke { A with sc:=ez (bl s A.sc) } AD tf hW OH
      have h2:=hg.resolve_left Ke { A with sc:=ez (bl s A.sc) } AD tf
      have h4:=hk { A with sc:=ez (bl s A.sc) } (by omega)
      generalize ch { A with sc:=ez (bl s A.sc) }=X at *
      have eL:(mu s X.1.sc 41).bad<0:=hb
      have dY:=(Fs.mu h2.iv 41).good eL
      have h5:=h1 dY
      obtain⟨m1,m2⟩:=Lr eL (by decide)
      have GG:pd s (oS (mu s X.1.sc 41))=0:=by rw[<-m1];exact Fu rfl
      have iB:=jK s X.1.sc
      have sn:=lI s (bl s A.sc)
      refine⟨?_,.of0 GG,fun _=>GG⟩
      show fQ X.1.ns+(bl s A.sc).at_+pd s (bl s A.sc)<=fQ A.ns+(mu s X.1.sc 41).at_+pd s (oS (mu s X.1.sc 41))
      have h6:fQ X.1.ns+((bl s A.sc).at_+1)<=fQ A.ns+X.1.sc.at_+1:=h5
      omega
     ·intro hb
      have jq:(wr (bl s A.sc)).bad<0:=hb
      have:=ii (bl s A.sc)
      omega
theorem IZ {s:ByteArray}{g:Sc}(hB:Bd s g):g.at_+pd s g<=(bn s g).at_+pd s (bn s g)/\Bd s (bn s g)/\(0<cY s g->pd s g=0->g.at_+1<=(bn s g).at_):=by
 obtain⟨b1,b2,b3⟩:=tW s g
 have hp:=lI s g
 have GF:=lI s (bl s g)
 unfold bn cY
 cases h1:il s g 38
 ·simp only[Bool.false_eq_true,if_false]
  rw[QO h1]
  obtain⟨c1,c2,c3⟩:=tW s (bl s g)
  cases h2:il s (bl s g) 33
  ·rw[QO h2]
   simp only[Bool.false_eq_true,if_false]
   exact⟨by omega,hB.bl.bl,fun x=>absurd x (by omega)⟩
  ·obtain⟨k1,k2⟩:=FM h2 (by decide)
   refine⟨by omega,.of0 k1,fun _ _=>by omega⟩
 ·simp only[if_true]
  obtain⟨k1,k2⟩:=FM h1 (by decide)
  exact⟨by omega,.of0 k1,fun _ _=>by omega⟩
structure Iq (s:ByteArray)(A:St)(X:St × Nat):Prop where
 phi:fQ X.1.ns+A.sc.at_+pd s A.sc<=fQ A.ns+X.1.sc.at_+pd s X.1.sc
 non:pd s A.sc=0->(ap X.1.ns X.2).kind≠3->fQ X.1.ns+A.sc.at_<=fQ A.ns+X.1.sc.at_
 bd:Bd s X.1.sc
theorem LF {ns:List Nd}{x k:Nat}(hW:Wf ns)(hx:x<ns.length)(hk:6<=k)(gf:k<=10):fQ (ns++[{ cj with kind:=k,subs:=[x] }])=fQ ns:=by
 have h:=pV (hW.push (mR hx gf)) (N:={ cj with kind:=k,subs:=[x] }) (by show k≠5;omega)
 rw[if_neg (show ¬k=3 by omega)]at h
 exact h
theorem TB {s:ByteArray}{ch:St->St × Nat}{d:Nat}(hg:d=0\/eN s ch (d-1))(ho:d=0\/o5 s ch (d-1))(hk:∀A,0<d->(ap (ch A).1.ns (ch A).2).kind=4)(hw:fR ch)(A:St)(hi:Iv s A.sc)(hd:5<=A.sc.op+d)(hW:Wf A.ns)(hB:Bd s A.sc)(hb:(bP s ch A).1.sc.bad<0):Iq s A (bP s ch A):=by
 obtain⟨f1,f2,f3⟩:=gX hi
 obtain⟨a1,a2,a3⟩:=IZ hB
 have hp:=TV hg ho hk { A with sc:=bn s A.sc } f1.iv (by rw[show ({ A with sc:=bn s A.sc }:St).sc.op=A.sc.op from f1.op];exact hd) hW a2.bl
 have UZ:=DG (s:=s) hw { A with sc:=bn s A.sc } hW
 revert hb
 unfold bP
 generalize aR s ch { A with sc:=bn s A.sc }=X at *
 obtain⟨b1,b2,b3⟩:=tW s (bn s A.sc)
 have hpA:=lI s A.sc
 have hr:(cG s X).1.sc.bad<0->(fQ (cG s X).1.ns+A.sc.at_+pd s A.sc<=fQ A.ns+(cG s X).1.sc.at_+pd s (cG s X).1.sc)/\Bd s (cG s X).1.sc/\((ap (cG s X).1.ns (cG s X).2).kind≠3->pd s (cG s X).1.sc=0)/\(cG s X).2<(cG s X).1.ns.length/\Wf (cG s X).1.ns/\(0<cY s A.sc->pd s A.sc=0->fQ (cG s X).1.ns+A.sc.at_+1<=fQ A.ns+(cG s X).1.sc.at_+pd s (cG s X).1.sc):=by
  obtain⟨c1,c2,c3⟩:=tW s X.1.sc
  have ri:=lI s (bl s X.1.sc)
  unfold cG
  have kM:=ed s X.1.sc
  split
  ·next ja=>
   intro hb
   have jq:(bM (bl s X.1.sc)).bad<0:=hb
   have hq:=hp (by rw[<-kM];exact jq)
   have gf:bm (pk s (bl s X.1.sc))<=10/\6<=bm (pk s (bl s X.1.sc))/\bL ((pk s (bl s X.1.sc):Nat):Int)=false/\0<pk s (bl s X.1.sc):=by
    revert ja;unfold bm
    split
    ·next e=>rw[e];intro _;decide
    split
    ·next e=>rw[e];intro _;decide
    split
    ·next e=>rw[e];intro _;decide
    ·intro x;omega
   obtain⟨p1,p2,p3⟩:=cT (s:=s) (g:=bl s X.1.sc) gf.2.2.2
   have GG:pd s (bM (bl s X.1.sc))=0:=qO (by unfold IC;rw[<-p3];exact gf.2.2.1)
   have ia:=LF (k:=bm (pk s (bl s X.1.sc))) UZ.wf UZ.lt gf.2.1 gf.1
   have qbq:fQ X.1.ns+(bl s (bn s A.sc)).at_+pd s (bl s (bn s A.sc))<=fQ A.ns+X.1.sc.at_+pd s X.1.sc:=hq.phi
   refine⟨?_,.of0 GG,fun _=>GG,by simp[aP],UZ.wf.push (mR UZ.lt gf.1),fun h0 h1=>?_⟩
   ·show fQ (X.1.ns++[_])+A.sc.at_+pd s A.sc<=fQ A.ns+(bM (bl s X.1.sc)).at_+pd s (bM (bl s X.1.sc))
    rw[ia,bZ];omega
   ·show fQ (X.1.ns++[_])+A.sc.at_+1<=fQ A.ns+(bM (bl s X.1.sc)).at_+pd s (bM (bl s X.1.sc))
    have:=a3 h0 h1
    rw[ia,bZ];omega
  ·intro hb
   have jq:(bl s X.1.sc).bad<0:=hb
   have hq:=hp (by rw[<-kM];exact jq)
   have qbq:fQ X.1.ns+(bl s (bn s A.sc)).at_+pd s (bl s (bn s A.sc))<=fQ A.ns+X.1.sc.at_+pd s X.1.sc:=hq.phi
   refine⟨?_,hq.bd.bl,fun x=>c3 (hq.non x),UZ.lt,UZ.wf,fun h0 h1=>?_⟩
   ·show fQ X.1.ns+A.sc.at_+pd s A.sc<=fQ A.ns+(bl s X.1.sc).at_+pd s (bl s X.1.sc)
    omega
   ·show fQ X.1.ns+A.sc.at_+1<=fQ A.ns+(bl s X.1.sc).at_+pd s (bl s X.1.sc)
    have:=a3 h0 h1
    omega
 generalize cG s X=R at *
 unfold eG
 split
 ·next ja=>
  intro hb
  have gf:cY s A.sc<=10/\6<=cY s A.sc:=by revert ja;unfold cY;(repeat' split) <;> omega
  obtain⟨r1,r2,r3,r4,r5,r6⟩:=hr hb
  have ia:=LF (k:=cY s A.sc) r5 r4 gf.2 gf.1
  have sn:=lI s R.1.sc
  refine⟨?_,fun h0 _=>?_,r2⟩
  ·show fQ (R.1.ns++[_])+A.sc.at_+pd s A.sc<=fQ A.ns+R.1.sc.at_+pd s R.1.sc
   rw[ia];exact r1
  ·show fQ (R.1.ns++[_])+A.sc.at_<=fQ A.ns+R.1.sc.at_
   have:=r6 ja h0
   rw[ia];omega
 ·next ja=>
  intro hb
  obtain⟨r1,r2,r3,r4,r5,r6⟩:=hr hb
  refine⟨r1,fun h0 h1=>?_,r2⟩
  have:=r3 h1
  omega
theorem BC {s:ByteArray}{ch:St->St × Nat}(hf:gU (fun _=>0) ch):∀f acc A,Wf A.ns->∃l,(dk s ch f acc A).1.ns=A.ns++l
 | 0,acc,A,h=>⟨[],by simp[dk]⟩
 | f+1,acc,A,h=>by
  have hp:=Du (s:=s) hf A h
  rw[dk]
  generalize bP s ch A=X at *
  obtain⟨l,hl⟩:=hp.ext
  split
  ·exact⟨l,hl⟩
  ·obtain⟨m,hm⟩:=BC hf f (acc++[X.2]) { X.1 with sc:=bl s X.1.sc } hp.ww.wf
   exact⟨l++m,by rw[hm];show X.1.ns++m=_;rw[hl,List.append_assoc]⟩
theorem LS {s:ByteArray}{ch:St->St × Nat}{d:Nat}(hg:d=0\/eN s ch (d-1))(ho:d=0\/o5 s ch (d-1))(hk:∀A,0<d->(ap (ch A).1.ns (ch A).2).kind=4)(hw:fR ch)(hF:gU (fun _=>0) ch):∀f acc A,Iv s A.sc->5<=A.sc.op+d->Wf A.ns->Bd s A.sc->(dk s ch f acc A).1.sc.bad<0->
  ∃rest,(dk s ch f acc A).2=acc++rest/\fQ (dk s ch f acc A).1.ns+A.sc.at_+pd s A.sc+(if pd s A.sc=0/\rest.all (fun j=>decide ((ap (dk s ch f acc A).1.ns j).kind≠3))=true then 1 else 0)<=fQ A.ns+(dk s ch f acc A).1.sc.at_+1
 | 0,acc,A,_,_,_,_,_=>⟨[],by simp[dk],by
  have:=lI s A.sc
  simp only[dk,List.all_nil,and_true]
  split <;> omega⟩
 | f+1,acc,A,hi,hd,hW,hB,hb=>by
  have hp:=TB hg ho hk hw A hi hd hW hB
  have hf:=nk (s:=s) hg hi hd
  have Oe:=Du (s:=s) hF A hW
  have hpA:=lI s A.sc
  rw[dk]at hb ⊢
  generalize bP s ch A=X at *
  have kM:=ed s X.1.sc
  obtain⟨b1,b2,b3⟩:=tW s X.1.sc
  have hpD:=lI s (bl s X.1.sc)
  split
  ·next hc=>
   rw[if_pos hc]at hb
   have jq:(bl s X.1.sc).bad<0:=hb
   have hq:=hp (by rw[<-kM];exact jq)
   refine⟨[X.2],rfl,?_⟩
   show fQ X.1.ns+A.sc.at_+pd s A.sc+(if pd s A.sc=0/\[X.2].all (fun j=>decide ((ap X.1.ns j).kind≠3))=true then 1 else 0)<=fQ A.ns+(bl s X.1.sc).at_+1
   have h1:=hq.phi
   split
   ·next hz=>
    have h2:=hq.non hz.1 (by simpa using hz.2)
    omega
   ·omega
  ·next hc=>
   rw[if_neg hc]at hb
   have fK:(bl s X.1.sc).bad<0:=by
    have h1:du s (bl s X.1.sc)=false:=by simpa using hc
    unfold du at h1
    simp only[Bool.or_eq_false_iff,Bool.not_eq_false']at h1
    exact(cS.1 h1.1.1.1).1
   have hq:=hp (by rw[<-kM];exact fK)
   have rx:5<=({ X.1 with sc:=bl s X.1.sc }:St).sc.op+d:=by rw[show ({ X.1 with sc:=bl s X.1.sc }:St).sc.op=X.1.sc.op from ip s X.1.sc,hf.op];exact hd
   obtain⟨rest,h1,h2⟩:=LS hg ho hk hw hF f (acc++[X.2]) { X.1 with sc:=bl s X.1.sc } hf.iv.bl rx Oe.ww.wf hq.bd.bl hb
   obtain⟨m,hm⟩:=BC (s:=s) hF f (acc++[X.2]) { X.1 with sc:=bl s X.1.sc } Oe.ww.wf
   generalize dk s ch f (acc++[X.2]) { X.1 with sc:=bl s X.1.sc }=Y at *
   refine⟨X.2 :: rest,by rw[h1,List.append_assoc];rfl,?_⟩
   have co:(ap Y.1.ns X.2).kind=(ap X.1.ns X.2).kind:=by rw[hm,fL Oe.ww.lt]
   have Gk:fQ Y.1.ns+(bl s X.1.sc).at_+pd s (bl s X.1.sc)+(if pd s (bl s X.1.sc)=0/\rest.all (fun j=>decide ((ap Y.1.ns j).kind≠3))=true then 1 else 0)<=fQ X.1.ns+Y.1.sc.at_+1:=h2
   have h3:=hq.phi
   split
   ·next hz=>
    rw[List.all_cons,Bool.and_eq_true]at hz
    have h4:=hq.non hz.1 (by rw[<-co];simpa using hz.2.1)
    by_cases yM:pd s (bl s X.1.sc)=0
    ·rw[if_pos ⟨yM,hz.2.2⟩]at Gk
     omega
    ·rw[if_neg (fun x=>yM x.1)]at Gk
     omega
   ·split at Gk <;> omega
theorem YL {s:ByteArray}{ch:St->St × Nat}{d:Nat}(hg:d=0\/eN s ch (d-1))(ho:d=0\/o5 s ch (d-1))(hk:∀A,0<d->(ap (ch A).1.ns (ch A).2).kind=4)(hw:fR ch)(hF:gU (fun _=>0) ch):o5 s (eT s ch) d:=by
 intro A hi hd hW hp hb
 obtain⟨rest,h1,h2⟩:=LS hg ho hk hw hF (s.size+3) [] A hi hd hW (.of0 hp) hb
 obtain⟨q1,q2,q3⟩:=zp (s:=s) hw (s.size+3) [] A hW (by simp)
 unfold eT
 generalize dk s ch (s.size+3) [] A=Y at *
 rw[List.nil_append]at h1
 have hN:sD Y.1.ns.length ({ cj with kind:=5,subs:=Y.2 }:Nd):=⟨q2,fun x=>absurd x (by simp),by simp⟩
 have h3:fQ (Y.1.ns++[{ cj with kind:=5,subs:=Y.2 }])=fQ Y.1.ns+if Y.2.all (fun j=>decide ((ap Y.1.ns j).kind≠3))=true then 1 else 0:=by
  unfold fQ
  rw[uP,Bf (q1.push hN)]
  show 2*(zd (fun _=>1) Y.1.ns+0)+(TL Y.1.ns+if (5:Nat)=5/\_ then 1 else 0)=_
  simp only[true_and]
  omega
 show fQ (Y.1.ns++[{ cj with kind:=5,subs:=Y.2 }])+A.sc.at_<=fQ A.ns+Y.1.sc.at_+1
 rw[h3,h1]
 rw[hp]at h2
 simp only[true_and]at h2
 omega
theorem Jm {s:ByteArray}{ch:St->St × Nat}{d:Nat}(hg:d=0\/eN s ch (d-1))(ho:d=0\/o5 s ch (d-1))(hk:∀A,0<d->(ap (ch A).1.ns (ch A).2).kind=4)(hw:fR ch)(hF:gU (fun _=>0) ch):∀f acc A,Iv s A.sc->5<=A.sc.op+d->Wf A.ns->pd s A.sc=0->(dD s ch f acc A).1.sc.bad<0->fQ (dD s ch f acc A).1.ns+A.sc.at_<=fQ A.ns+(dD s ch f acc A).1.sc.at_+1
 | 0,acc,A,_,_,_,_,_=>by simp only[dD];omega
 | f+1,acc,A,hi,hd,hW,hp,hb=>by
  have hs:=YL hg ho hk hw hF A hi hd hW hp
  have hf:=rJ (s:=s) hg hi hd
  have Oe:=LY (s:=s) hF A hW
  rw[dD]at hb ⊢
  generalize eT s ch A=X at *
  have kM:=eJ s X.1.sc 47
  have iB:=jK s X.1.sc
  split
  ·next hc=>
   rw[if_pos hc]at hb
   have fK:X.1.sc.bad<0:=by
    rcases Int.lt_or_le X.1.sc.bad 0 with h | h
    ·exact h
    ·rw[nB 47 h]at hc;cases hc
   obtain⟨k1,k2⟩:=FM hc (by decide)
   have h1:=Jm hg ho hk hw hF f (acc++[X.2]) { X.1 with sc:=sg s X.1.sc 47 } (hf.iv.sg 47) (by rw[show ({ X.1 with sc:=sg s X.1.sc 47 }:St).sc.op=X.1.sc.op from qa s X.1.sc 47,hf.op];exact hd) Oe.ww.wf k1 hb
   generalize dD s ch f (acc++[X.2]) { X.1 with sc:=sg s X.1.sc 47 }=Y at *
   have N0:fQ Y.1.ns+(sg s X.1.sc 47).at_<=fQ X.1.ns+Y.1.sc.at_+1:=h1
   have:=hs fK
   omega
  ·next hc=>
   rw[if_neg hc]at hb
   have jq:(sg s X.1.sc 47).bad<0:=hb
   have h1:=hs (by rw[<-kM];exact jq)
   have h2:=BJ s X.1.sc 47
   show fQ X.1.ns+A.sc.at_<=fQ A.ns+(sg s X.1.sc 47).at_+1
   omega
theorem P1 {s:ByteArray}{ch:St->St × Nat}{d:Nat}(hg:d=0\/eN s ch (d-1))(ho:d=0\/o5 s ch (d-1))(hk:∀A,0<d->(ap (ch A).1.ns (ch A).2).kind=4)(hw:fR ch)(hF:gU (fun _=>0) ch):o5 s (jU s ch) d:=by
 intro A hi hd hW hp hb
 have h1:=Jm hg ho hk hw hF (s.size+3) [] A hi hd hW hp hb
 obtain⟨q1,q2,q3⟩:=ym (s:=s) hw (s.size+3) [] A hW (by simp)
 unfold jU
 generalize dD s ch (s.size+3) [] A=Y at *
 have hN:sD Y.1.ns.length ({ cj with kind:=4,subs:=Y.2 }:Nd):=⟨q2,fun x=>absurd x (by simp),by simp⟩
 have h3:=pV (q1.push hN) (by show (4:Nat)≠5;omega)
 show fQ (Y.1.ns++[{ cj with kind:=4,subs:=Y.2 }])+A.sc.at_<=fQ A.ns+Y.1.sc.at_+1
 rw[h3,if_neg (show ¬(4:Nat)=3 by omega)]
 exact h1
theorem Jj (s:ByteArray):∀d,o5 s (dw s (d+1)) d
 | 0=>P1 (.inl rfl) (.inl rfl) (fun _ x=>absurd x (by omega)) (qV s 0) (tY s _ 0)
 | d+1=>P1 (d:=d+1) (.inr (eH s d)) (.inr (Jj s d)) (fun A _=>wU s d A) (qV s (d+1)) (tY s _ (d+1))
structure Rb (s:ByteArray)(X:St)(rs:List Rl):Prop where
 q:Uu s X rs
 wf:lK X.ns rs
 pd:pd s X.sc=0
 pt:fQ X.ns+2*rs.length<=X.sc.at_
theorem Uc {s:ByteArray}{X:St}{rs:List Rl}(h:Rb s X rs)(h8:rs.length≠8)(hb:X.sc.bad<0)(hg:(de s X).1.sc.bad<0):Rb s (de s X).1 (rs++[(de s X).2]):=by
 obtain⟨k1,k2,k3,k4,k5⟩:=jQ h.q.ok h.q.op hb
 have hq:=LR h.q hb hg
 have K8:=DT (s:=s) h.wf h8
 obtain⟨w1,w2,w3⟩:=gN h.q.ok.iv
 have rx:5<=({ X with sc:=mu s (bz s X.sc).2 61 }:St).sc.op+5:=by omega
 have hc:=eH s 5 { X with sc:=mu s (bz s X.sc).2 61 } k1.iv rx
 have hB:=Jj s 5 { X with sc:=mu s (bz s X.sc).2 61 } k1.iv rx h.wf.wf
 have hfs:=Fs.mu w1.iv 61
 refine⟨hq,K8,?_,?_⟩
 all_goals
  revert hg
  unfold de
  generalize dw s 6 { X with sc:=mu s (bz s X.sc).2 61 }=Y at *
  intro hg
  have eL:(mu s Y.1.sc 10).bad<0:=hg
  have dY:=(Fs.mu hc.iv 10).good eL
  have C5:(mu s (bz s X.sc).2 61).bad<0:=hc.good dY
  obtain⟨m1,m2⟩:=Lr eL (by decide)
  obtain⟨n1,n2⟩:=Lr C5 (by decide)
 ·exact m1
 ·have h1:fQ Y.1.ns+(mu s (bz s X.sc).2 61).at_<=fQ X.ns+Y.1.sc.at_+1:=hB n1 dY
  have h2:=w3 (hfs.good C5)
  have h3:=jK s (bz s X.sc).2
  have h4:=jK s Y.1.sc
  have h5:=h.pt
  show fQ Y.1.ns+2*(rs++[_]).length<=(mu s Y.1.sc 10).at_
  rw[List.length_append,List.length_singleton]
  omega
theorem Fz {s:ByteArray}:∀f X rs,Rb s X rs->(cX s f X rs).1.sc.bad<0->Rb s (cX s f X rs).1 (cX s f X rs).2
 | 0,X,rs,h,_=>h
 | f+1,X,rs,h,hb=>by
  rw[cX]at hb ⊢
  split
  ·next hc=>
   rw[if_pos hc]at hb
   split
   ·next h8=>
    rw[if_pos h8]at hb
    have jq:(wr X.sc).bad<0:=hb
    have:=ii X.sc
    omega
   ·next h8=>
    rw[if_neg h8]at hb
    refine Fz f _ _ (Uc h h8 hc.1 ?_) hb
    rcases Int.lt_or_le (de s X).1.sc.bad 0 with h1 | h1
    ·exact h1
    ·rw[xL f _ _ h1]at hb;omega
  ·exact h
theorem T7 {s:ByteArray}(hs:s.size<=400)(hb:(aq s).1.sc.bad<0):fQ (aq s).1.ns+2*(aq s).2.length<=400:=by
 have h:=Fz (s:=s) 10 ⟨⟨0,-1,0,0⟩,[]⟩ [] ⟨⟨⟨⟨fun _=>by simp,by simp⟩,by simp,by simp[Pt,rest];omega,by simp,hs⟩,rfl,by simp,by simp,by simp⟩,⟨Wf.nil,by simp,by simp⟩,rfl,by simp[fQ,zd,TL,cx]⟩ hb
 have h1:=h.pt
 have h2:=h.q.ok.iv.1 hb
 unfold aq
 omega
def me (ns:List Nd):Prop:=∀i,i<ns.length->(ap ns i).kind=4->∀j∈(ap ns i).subs,(ap ns j).kind=5
theorem me.push {ns:List Nd}{N:Nd}(h:me ns)(hw:Wf ns)(hN:∀j∈N.subs,j<ns.length)(h4:N.kind=4->∀j∈N.subs,(ap ns j).kind=5):me (ns++[N]):=by
 intro i hi hk j hj
 rw[List.length_append,List.length_singleton]at hi
 by_cases e:i<ns.length
 ·rw[fL e]at hk hj
  have:=(be hw e).low j hj
  rw[fL (by omega)]
  exact h i e hk j hj
 ·have e':i=ns.length:=by omega
  subst e'
  rw[ik]at hk hj
  rw[fL (hN j hj)]
  exact h4 hk j hj
def l9 (ch:St->St × Nat):Prop:=∀A,Wf A.ns->me A.ns->me (ch A).1.ns
theorem me.plain {ns:List Nd}{N:Nd}(h:me ns)(hw:Wf ns)(h1:N.subs=[]):me (ns++[N]):=h.push hw (by rw[h1];simp) (fun _=>by rw[h1];simp)
theorem TZ {s:ByteArray}{ch:St->St × Nat}(dH:l9 ch):l9 (aR s ch):=by
 intro A hw h
 unfold aR
 split
 ·exact me.plain h hw rfl
 ·split
  ·exact me.plain h hw rfl
  ·split
   ·exact me.plain h hw rfl
   ·split
    ·exact me.plain h hw rfl
    ·split
     ·exact dH { A with sc:=ez (bl s A.sc) } hw h
     ·exact me.plain h hw rfl
theorem TD {s:ByteArray}{ch:St->St × Nat}(hw:fR ch)(dH:l9 ch):l9 (bP s ch):=by
 intro A hwA h
 have hp:=DG (s:=s) hw { A with sc:=bn s A.sc } hwA
 have hk:=TZ (s:=s) dH { A with sc:=bn s A.sc } hwA h
 unfold bP
 generalize aR s ch { A with sc:=bn s A.sc }=X at *
 have hr:me (cG s X).1.ns/\Wf (cG s X).1.ns/\(cG s X).2<(cG s X).1.ns.length:=by
  unfold cG
  split
  ·next ja=>
   have gf:bm (pk s (bl s X.1.sc))<=10/\6<=bm (pk s (bl s X.1.sc)):=by revert ja;unfold bm;(repeat' split) <;> omega
   refine⟨hk.push hp.wf (fun j hj=>?_) (fun x=>absurd (show bm (pk s (bl s X.1.sc))=4 from x) (by omega)),hp.wf.push (mR hp.lt gf.1),by simp[aP]⟩
   have AG:j∈[X.2]:=hj
   simp at AG;rw[AG];exact hp.lt
  ·exact⟨hk,hp.wf,hp.lt⟩
 generalize cG s X=R at *
 unfold eG
 split
 ·next ja=>
  have gf:6<=cY s A.sc:=by revert ja;unfold cY;(repeat' split) <;> omega
  refine hr.1.push hr.2.1 (fun j hj=>?_) (fun x=>absurd (show cY s A.sc=4 from x) (by omega))
  have AG:j∈[R.2]:=hj
  simp at AG;rw[AG];exact hr.2.2
 ·exact hr.1
theorem LV {s:ByteArray}{ch:St->St × Nat}(hw:fR ch)(dH:l9 ch):∀f acc A,Wf A.ns->me A.ns->me (dk s ch f acc A).1.ns
 | 0,acc,A,_,h=>h
 | f+1,acc,A,hwA,h=>by
  have hp:=Ld (s:=s) hw A hwA
  have hk:=TD (s:=s) hw dH A hwA h
  rw[dk]
  generalize bP s ch A=X at *
  split
  ·exact hk
  ·exact LV hw dH f _ { X.1 with sc:=bl s X.1.sc } hp.wf hk
theorem YN {s:ByteArray}{ch:St->St × Nat}(hw:fR ch)(dH:l9 ch):l9 (eT s ch):=by
 intro A hwA h
 obtain⟨q1,q2,q3⟩:=zp (s:=s) hw (s.size+3) [] A hwA (by simp)
 exact(LV hw dH (s.size+3) [] A hwA h).push q1 q2 (fun x=>absurd (show (5:Nat)=4 from x) (by omega))
theorem Jp {s:ByteArray}{ch:St->St × Nat}(hw:fR ch)(dH:l9 ch)(hf:gU (fun _=>0) ch):∀f acc A,Wf A.ns->me A.ns->(∀j∈acc,j<A.ns.length/\(ap A.ns j).kind=5)->me (dD s ch f acc A).1.ns/\∀j∈(dD s ch f acc A).2,(ap (dD s ch f acc A).1.ns j).kind=5
 | 0,acc,A,_,h,ha=>⟨h,fun j hj=>(ha j hj).2⟩
 | f+1,acc,A,hwA,h,ha=>by
  have hp:=LY (s:=s) hf A hwA
  have hk:=YN (s:=s) hw dH A hwA h
  have h5:=xP s ch A
  rw[dD]
  generalize eT s ch A=X at *
  obtain⟨l,hl⟩:=hp.ext
  have hj:∀j∈acc++[X.2],j<X.1.ns.length/\(ap X.1.ns j).kind=5:=by
   intro j hj
   rcases List.mem_append.1 hj with h1 | h1
   ·obtain⟨h2,h3⟩:=ha j h1
    have:=hp.ww.le
    exact⟨by omega,by rw[hl,fL h2];exact h3⟩
   ·simp at h1;rw[h1];exact⟨hp.ww.lt,h5⟩
  split
  ·exact Jp hw dH hf f _ { X.1 with sc:=sg s X.1.sc 47 } hp.ww.wf hk hj
  ·exact⟨hk,fun j h=>(hj j h).2⟩
theorem We {s:ByteArray}{ch:St->St × Nat}(hw:fR ch)(dH:l9 ch)(hf:gU (fun _=>0) ch):l9 (jU s ch):=by
 intro A hwA h
 obtain⟨q1,q2,q3⟩:=ym (s:=s) hw (s.size+3) [] A hwA (by simp)
 obtain⟨k1,k2⟩:=Jp (s:=s) hw dH hf (s.size+3) [] A hwA h (by simp)
 exact k1.push q1 q2 (fun _=>k2)
theorem Jl (s:ByteArray):∀d,l9 (dw s d)
 | 0=>fun A hw h=>me.plain h hw rfl
 | d+1=>We (qV s d) (Jl s d) (tY s _ d)
theorem FC {s:ByteArray}:∀f X rs,lK X.ns rs->me X.ns->me (cX s f X rs).1.ns
 | 0,X,rs,_,h=>h
 | f+1,X,rs,hw,h=>by
  rw[cX]
  split
  ·split
   ·exact h
   ·next h8=>
    refine FC f _ _ (DT hw h8) ?_
    exact Jl s 6 { X with sc:=mu s (bz s X.sc).2 61 } hw.wf h
  ·exact h
theorem T9 (s:ByteArray):me (aq s).1.ns:=FC 10 _ _ ⟨Wf.nil,by simp,by simp⟩ (fun i hi=>absurd hi (by simp))
theorem Bo {rs:List Rl}{ns:List Nd}{S:Nat->Bool}(hE:gD rs ns S)(lc:∀r,r<rs.length->(ap ns (cL rs r)).kind=4)(h45:∀i,i<ns.length->(ap ns i).kind=4->∀j∈(ap ns i).subs,(ap ns j).kind=5)(h53:∀i,i<ns.length->(ap ns i).kind=5->∃j∈(ap ns i).subs,(ap ns j).kind=3):∀n r,r<rs.length->l7 (m0 rs ns S) r<n->S r=false
 | 0,r,_,h=>absurd h (by omega)
 | n+1,r,hr,h=>by
  have hW:=hE.wf.wf
  have th:=dy hE.wf hr
  cases hs:S r with
  | false=>rfl
  | true=>
   exfalso
   have h1:=hE.ls.fix r hr
   rw[hs,pa hW S ns.length (ns.length+1) _ th th (by omega),cE]at h1
   have h4:=lc r hr
   have h2:(ap ns (cL rs r)).subs.any (cE rs ns S ns.length)=true:=by
    rw[<-CO (q:=S (dI rs (ap ns (cL rs r)))) (.inl h4)];exact h1.symm
   obtain⟨j,hj,hcj⟩:=List.any_eq_true.1 h2
   have C8:=(be hW th).low j hj
   have h5:=h45 _ th h4 j hj
   rw[pa hW S ns.length (ns.length+1) j (by omega) (by omega) (by omega),cE]at hcj
   have sN:∀x∈(ap ns j).subs,cE rs ns S ns.length x=true:=by
    have h6:=Jy (q:=S (dI rs (ap ns j))) (f:=cE rs ns S ns.length) h5
    rw[hcj]at h6
    intro x hx
    cases hc:cE rs ns S ns.length x with
    | true=>rfl
    | false=>
     have:(ap ns j).subs.any (fun j=>!cE rs ns S ns.length j)=true:=List.any_eq_true.2 ⟨x,hx,by rw[hc];rfl⟩
     rw[this]at h6;cases h6
   obtain⟨x,hx,hx3⟩:=h53 j (by omega) h5
   have oL:=(be hW (show j<ns.length by omega)).low x hx
   have hcx:=sN x hx
   rw[pa hW S ns.length (ns.length+1) x (by omega) (by omega) (by omega),cE,Ev hx3]at hcx
   obtain⟨l,m,e⟩:=List.append_of_mem hx
   have hb:Bg rs ns S (cL rs r) (dI rs (ap ns x)):=Bg.sub hj (by omega) (Bg.item e h5 (fun y hy=>sN y (by rw[e];simp[hy])) (Bg.name hx3))
   have bj:=hE.rank hr hb
   have:=Bo hE lc h45 h53 n (dI rs (ap ns x)) (gJ hE.nm (by omega) hx3) (by omega)
   rw[this]at hcx;cases hcx
theorem Pz {G s:ByteArray}(h:dj G=(0,0))(hs:s.size<=60){f r a dp t:Nat}{o:Ot}(hr:r<(aq G).2.length)(ha:a<=s.size)(hm:bR (am s) s.size (aq G).2 (aq G).1.ns f (cL (aq G).2 r) a dp=some o)(eQ:o.to=some t):o.tr.length<=6904678719960:=by
 obtain⟨h4,hb,S,hE⟩:=jl h
 have hF:=Bx G
 have hB:=T7 h4 hb
 have hq:=uU h4 hb
 have hN:xI (aq G).2 (aq G).1.ns (fun _=>1)=zd (fun _=>1) (aq G).1.ns:=rfl
 have hx:xT (aq G).2 (aq G).1.ns (w1 (aq G).2 (aq G).1.ns S)<=115077978666:=by
  unfold fQ at hB
  have h8:=hE.wf.len
  by_cases h7:(aq G).2.length<=7
  ·exact YX hE hF (by rw[hN];omega) h7
  ·by_cases hl:TL (aq G).1.ns=0
   ·refine YW (fun r hr=>Bo hE (fun r hr=>?_) (T9 G) (fun i hi h5=>?_) 9 r hr (by have:=uX (m0 (aq G).2 (aq G).1.ns S) r;omega)) hE hF (by rw[hN];omega)
    ·have eP:((aq G).2[r])∈(aq G).2:=List.getElem_mem hr
     have h1:=(hq.ch _ eP).1
     have h2:cL (aq G).2 r=((aq G).2[r]).is:=bQ _ _ _ _ hr
     rw[h2];exact h1
    ·have h1:=qd (f:=fun i=>if (ap (aq G).1.ns i).kind=5/\(ap (aq G).1.ns i).subs.all (fun j=>decide ((ap (aq G).1.ns j).kind≠3))=true then 1 else 0) (aq G).1.ns.length hi
     have h2:cx (fun i=>if (ap (aq G).1.ns i).kind=5/\(ap (aq G).1.ns i).subs.all (fun j=>decide ((ap (aq G).1.ns j).kind≠3))=true then 1 else 0) (aq G).1.ns.length=0:=hl
     rw[h2]at h1
     refine Classical.byContradiction (fun hc=>?_)
     rw[if_pos ⟨h5,List.all_eq_true.2 (fun j hj=>by
      have:(ap (aq G).1.ns j).kind≠3:=fun e=>hc ⟨j,hj,e⟩
      simpa using this)⟩]at h1
     omega
   ·exact YY hE hF (by rw[hN];omega)
 have h9:=Hq (Uj hE) hr ha hm eQ hs
 omega
end Go.Proofs.YtagklnaaoclmhaaGreatDoor
