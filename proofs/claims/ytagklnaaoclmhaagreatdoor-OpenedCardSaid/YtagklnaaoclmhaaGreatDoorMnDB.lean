import Derived.Test.YtagklnaaoclmhaaGreatDoorMnDA
import Derived.Test.YtagklnaaoclmhaaGreatDoorMnCD
set_option linter.unusedSimpArgs false
set_option linter.unusedVariables false
set_option maxRecDepth 100000
set_option maxHeartbeats 16000000
namespace Go.Proofs.YtagklnaaoclmhaaGreatDoor
open Go.RowKit
def PX (e:Nat):Prop:=e=121\/e=185\/e=126\/e=61
theorem lS.kept2 {S:Nat->Prop}{w w':World}{base b:Nat}{s:ByteArray}{nv rv:Value}{U:Nat->Prop}{A:St}{rs:List Rl}(h:lS w base b s nv rv U A rs)(hk:aa S w w')
  (hs:∀k,S k->k<w.heap.size->∃c e,ai w k=some (.cells c e (0,0))/\PX e):lS w' base b s nv rv U A rs:=by
 have key:∀{k c e},ai w k=some (.cells c e (0,0))->¬PX e->¬S k:=by
  intro k c e ho he hS
  obtain⟨c2,e2,h2,h3⟩:=hs k hS (ag ho)
  rw[ho]at h2
  simp at h2
  exact he (by rw[h2.2];exact h3)
 obtain⟨y,hy⟩:=h.rg.gis.obj
 refine⟨?_,az h.ru hk (fun k e=>by obtain⟨x,hx⟩:=ak h.ru e;exact key hx (by unfold PX;decide))⟩
 have:=h.rg.turn hk (g:=A.sc) (h.rg.gis.kept hk (key hy (by unfold PX;decide))) (fun k e=>by obtain⟨x,hx⟩:=h.rg.nvb e;exact key hx (by unfold PX;decide)) (fun k c _ ho=>key ho (by unfold PX;decide))
 exact this
structure Rc where
 fb:Nat
 gb:Nat
 cb:Nat
 base:Nat
 s:ByteArray
 G:ByteArray
 nv:Value
 rv:Value
 U:Nat->Prop
def Rc.rs (R:Rc):List Rl:=(aq R.G).2
def Rc.ns (R:Rc):List Nd:=(aq R.G).1.ns
def Rc.N (R:Rc):Nat:=(aq R.G).2.length*(R.s.size+1)
structure m7 (R:Rc)(w:World)(c:Nat->Option Cl)(tv:Value):Prop where
 fld:rW w R.fb R.gb R.s R.cb R.N tv
 cel:oY w R.cb R.N c
 val:∀n a x,n<R.rs.length->a<=R.s.size->c (n*(R.s.size+1)+a)=some x->∃f o,bR (am R.s) R.s.size R.rs R.ns f (cL R.rs n) a 0=some o/\x=iq o a
 rdy:lS w R.base R.gb R.G R.nv R.rv R.U (aq R.G).1 (aq R.G).2
structure fu (R:Rc)(c:Nat->Option Cl)(tv:Value)(o:Ot)(a tb:Nat)(far:Int × Nat)(rn:Nat)(w:World)(e:Ending)(w':World):Prop where
 res:e=.returned (.tuple #[.int .i64 ((o.to.getD a:Nat):Int),.bool o.to.isSome])
 trc:cz w' tb (dt far (cH o.ev)) (min cJ (rn+o.rn))
 st:∃c',m7 R w' c' tv
 kept:aa (fun k=>k=tb\/k=R.cb) w w'
def mf (R:Rc)(f:Nat):Prop:=∀i a dp o tb far rn c tv w,i<R.ns.length->a<=R.s.size->bR (am R.s) R.s.size R.rs R.ns f i a dp=some o->m7 R w c tv->cz w tb far rn->rn<=cJ->-1<=far.1->
 Calls Tryz.prog 89 #[.pointer (some ⟨R.fb,0,none⟩),.int .i64 (i:Int),.int .i64 (a:Int),.pointer (some ⟨tb,0,none⟩)] w fun e w'=>fu R c tv o a tb far rn w e w'
theorem m7.kept {R:Rc}{w w':World}{c:Nat->Option Cl}{tv:Value}(h:m7 R w c tv){S:Nat->Prop}(hk:aa S w w')(h1:¬S R.fb)(h2:¬S R.cb)(hs:∀k,S k->k<w.heap.size->∃c e,ai w k=some (.cells c e (0,0))/\PX e):m7 R w' c tv:=
 ⟨⟨hk.blk h.fld.at_ h1⟩,hk.blk h.cel h2,h.val,h.rdy.kept2 hk hs⟩
theorem m7.same {R:Rc}{w w':World}{c:Nat->Option Cl}{tv:Value}(h:m7 R w c tv)(hk:aa (fun _=>False) w w'):m7 R w' c tv:=h.kept hk (fun x=>x) (fun x=>x) (fun _ x=>x.elim)
theorem JC (e:Int × Nat)(h:-1<=e.1):dt (-1,0) e=e:=by
 unfold dt
 split
 ·rfl
 ·next h1=>
  have h2:(-1:Int)=e.1:=by have:¬(-1:Int)<e.1:=h1;omega
  rw[if_pos (show (-1:Int)=e.1 from h2)]
  cases e with
  | mk x y=>simp at h2 ⊢;exact h2
structure F3 (R:Rc)(tv:Value)(o:Ot)(a:Nat)(w:World)(e:Ending)(w':World):Prop where
 res:e=.returned (.agg (cO (some (iq o a))).toArray)
 st:∃c',m7 R w' c' tv
 kept:aa (fun k=>k=R.cb) w w'
end Go.Proofs.YtagklnaaoclmhaaGreatDoor
namespace Go.Proofs.YtagklnaaoclmhaaGreatDoor
open Go.RowKit
attribute [local go_sem ↓] bU bB bF bD cC bT bV cg bN
attribute [local go_sem] bG bp bu bi bX bJ bK bx cA b9 cd bf aK au aN
theorem Py (far:Int × Nat)(rn:Nat):(vj far rn).extract 1 (1+41)=jF far.2:=by
 apply Array.ext'
 rw[Array.toList_extract]
 simp only[List.extract_eq_take_drop,vj,List.toList_toArray]
 rw[show 1+41-1=41 from rfl,List.drop_succ_cons,List.drop_zero,List.take_left' (ml _)]
 rfl
theorem cz.cells {w:World}{tb:Nat}{far:Int × Nat}{rn:Nat}(h:cz w tb far rn):w.cell? ⟨tb,0,none⟩=some (.int .i64 far.1)/\w.cell? ⟨tb,42,none⟩=some (.int .i64 (rn:Int)):=by
 have hg:qL w tb far.1 (far.2.testBit ·) rn:=h
 exact⟨hg.far,hg.runs⟩
theorem EB:∀l,-1<=CV l
 | []=>by simp[CV]
 | e :: l=>by
  have:=EB l
  rw[CV]
  split <;> omega
theorem Bz {R:Rc}{f:Nat}(hM:mf R f)(hs:R.s.size<=60)(KP:R.rs.length<=8)(uw:∀n,n<R.rs.length->cL R.rs n<R.ns.length){n a dp:Nat}{o:Ot}(hn:n<R.rs.length)(ha:a<=R.s.size)(h:bR (am R.s) R.s.size R.rs R.ns f (cL R.rs n) a dp=some o){c:Nat->Option Cl}{tv:Value}{w:World}(hS:m7 R w c tv):
  Calls Tryz.prog 58 #[.pointer (some ⟨R.fb,0,none⟩),.int .i64 (n:Int),.int .i64 (a:Int)] w fun e w'=>F3 R tv o a w e w':=by
 obtain⟨k,hk⟩:∃k,n*(R.s.size+1)+a=k:=⟨_,rfl⟩
 have Nf:k<R.N:=by
  have h1:(n+1)*(R.s.size+1)<=R.rs.length*(R.s.size+1):=Nat.mul_le_mul_right _ hn
  have h2:(n+1)*(R.s.size+1)=n*(R.s.size+1)+(R.s.size+1):=by rw[Nat.add_mul,Nat.one_mul]
  have h3:R.N=R.rs.length*(R.s.size+1):=rfl
  omega
 have HKN:=ae Nf
 have hNb:R.N<=5000:=Nat.le_trans (Nat.mul_le_mul KP (show R.s.size+1<=61 by omega)) (by decide)
 cases hx:c k with
 | some x=>
  refine(DS R.fb R.gb R.s R.cb R.N tv c n a k x w hS.fld hS.cel hs (by omega) (by omega) hk Nf hNb hx).mono ?_
  rintro e w' ⟨rfl,K⟩
  obtain⟨f',o',h1,h2⟩:=hS.val n a x hn ha (by rw[hk];exact hx)
  obtain⟨o0,h3,h4⟩:=mO h
  have h5:=zb h1 h3
  refine⟨by rw[h2,h4,h5];rfl,⟨c,hS.same K⟩,K.mono (fun _ _ x=>x.elim)⟩
 | none=>
  obtain⟨f0,f1,f2,f3⟩:=di hS.fld.at_
  have mz:=av f0
  have c0:=hS.cel.known Nf
  rw[hx]at c0
  have ri:=av c0
  obtain⟨g0,g1,gx⟩:=hS.rdy.rg.gis.cells
  clear gx
  have lV:=av g0
  obtain⟨rb,wH,dU,i0,i1,i2⟩:=hS.rdy.ru.cells hn
  clear i0 i1
  rw[dU]at g1
  have Cn:=av i2
  have GA:cL R.rs n=(aq R.G).2[n].is:=by unfold cL;have OC:n<(aq R.G).2.length:=hn;simp[Rc.rs,List.getD_eq_getElem?_getD,OC];rfl
  rw[<-GA]at i2
  obtain⟨q,hq⟩:∃q,q=n*(R.s.size+1):=⟨_,rfl⟩
  have ZI:((n:Nat):Int)*((R.s.size:Int)+1)=(q:Int):=by rw[hq];push_cast;rfl
  have hqk:(q:Int)+(a:Int)=(k:Int):=by rw[hq];omega
  have ZH:q<=5000:=by omega
  have Ov:n<(aq R.G).2.length:=hn
  have qbA:(aq R.G).2.length<=8:=KP
  obtain⟨w1,dZ⟩:∃w1,w1=(w.alloc (.cells xW 121)).alloc (.cells (vj (-1,0) 1) 185):=⟨_,rfl⟩
  have K1:aa (fun _=>False) w w1:=by rw[dZ];exact((aa.refl _ w).alloc _).alloc _
  have iL:=hS.same K1
  have ju:cz w1 (w.heap.size+1) (-1,0) 1:=by
   unfold cz
   rw[dZ]
   have:=heap_alloc_new (w.alloc (.cells xW 121)) (.cells (vj (-1,0) 1) 185)
   simpa using this
  have Cm:=hM (cL R.rs n) a dp o (w.heap.size+1) (-1,0) 1 c tv w1 (uw n hn) ha h iL ju (by decide) (by decide)
  have HK:=ae hk
  have HS:=ae hS
  have HH:=ae h
  have HHn:=ae hn
  have HHa:=ae ha
  have qcj:R.s.size<=60:=hs
  obtain⟨isn,Qn⟩:∃i,i=cL R.rs n:=⟨_,rfl⟩
  rw[<-Qn]at Cm i2
  clear hq hk hx hS h hn ha dU GA uw KP hs hM iL ju Qn Nf
  have Nf:k<R.N:=HKN.out
  go_enter Tryz.func58,Tryz.ntmps58
  go_wp2_with fail
  rw[<-dZ]
  refine Cm.mono ?_
  intro e w2 hO
  have he:=hO.res
  subst he
  obtain⟨c',gA⟩:=hO.st
  have E1:=hO.trc
  have dl:=hO.kept
  have ku:dt (-1,0) (cH o.ev)=cH o.ev:=JC _ (by rw[Aq];exact EB _)
  rw[ku]at E1
  have iz:w2.heap[w.heap.size]?=some (.cells xW 121 (0,0)):=by
   have iD:w1.heap[w.heap.size]?=some (.cells xW 121 (0,0)):=by
    rw[dZ,Below.heap_alloc _ _ _ (by simp)];exact heap_alloc_new _ _
   exact dl.blk iD (fun x=>by rcases x with x | x <;> omega)
  obtain⟨fa0,fa1,fa2,fa3⟩:=di gA.fld.at_
  obtain⟨ta0,ta2⟩:=E1.cells
  have eQ:ai w2 (w.heap.size+1)=some (.cells (vj (cH o.ev) (min cJ (1+o.rn))) 185 (0,0)):=E1
  have Dp:=Py (cH o.ev) (min cJ (1+o.rn))
  have Do:=Mg (cH o.ev) (min cJ (1+o.rn))
  have Sh:ai w2 R.cb=some (.cells (kp c' R.N) 121 (0,0)):=gA.cel
  have lE:=m8 c' R.N
  have nj:k*46+46<=R.N*46:=by omega
  obtain⟨X,hX⟩:∃X:Cl,X=⟨o.to.isSome,o.to.getD a,((cH o.ev).1,(cH o.ev).2),min cJ (1+o.rn)⟩:=⟨_,rfl⟩
  have iB:=fun W=>cA W o.to.isSome (o.to.getD a) (cH o.ev).1 (cH o.ev).2 (min cJ (1+o.rn))
  rw[<-hX]at iB
  have Qg:=dv (some X)
  have hXo:=iZ (some X)
  have HCl:Hid ((⟨o.to.isSome,o.to.getD a,((cH o.ev).1,(cH o.ev).2),min cJ (1+o.rn)⟩:Cl)=iq o a):=by unfold Hid iq;rw[Nat.add_comm 1 o.rn]
  have K01:=ae K1
  generalize o.to.getD a=ot at *
  generalize o.to.isSome=ob at *
  generalize cH o.ev=fe at *
  generalize min cJ (1+o.rn)=mr at *
  have HX:=ae hX
  have rY:=ae gA
  have tK:=ae dl
  have HTR:=ae E1
  clear Cm hO gA dl E1 ku hX dZ f0 f1 f2 f3 g0 g1 i2 c0 ZI hqk ZH
  go_wp2_with fail
  go_region
  obtain⟨w3,gT⟩:∃w3,w3=w2.drew.setCells R.cb (k*46) (cO (some X)):=⟨_,rfl⟩
  rw[<-gT]
  have zP:aa (fun j=>j=R.cb) w2 w3:=by rw[gT];exact(aa.refl _ w2).drew.trans (dR _ _ _ _)
  have qY:oY w3 R.cb R.N (fun j=>if j=k then some X else c' j):=by
   unfold oY
   have h1:w2.drew.heap[R.cb]?=some (.cells (kp c' R.N) 121 (0,0)):=Sh
   rw[gT,eu R.cb (cO (some X)) (k*46) _ _ 121 h1 (by rw[lE,Qg];omega),Jb c' Nf (some X)]
  have js:¬R.fb=R.cb:=fun e=>by
   have h1:w2.heap[R.fb]?=_:=rY.out.fld.at_
   have h2:w2.heap[R.cb]?=_:=rY.out.cel
   rw[e,h2]at h1
   simp at h1
  have hz3:=zP.blk iz (fun e=>by have e':w.heap.size=R.cb:=e;omega)
  have Ro:Hid (m7 R w3 (fun j=>if j=k then some X else c' j) tv):=by
   refine⟨⟨zP.blk rY.out.fld.at_ js⟩,qY,fun n' a' x OC J5 E3=>?_,rY.out.rdy.kept2 zP (fun j e _=>⟨kp c' R.N,121,(by have e':j=R.cb:=e;rw[e'];exact rY.out.cel),.inl rfl⟩)⟩
   by_cases hj:n'*(R.s.size+1)+a'=k
   ·rw[if_pos hj]at E3
    have fU:=HK.out
    have SO:n'=n:=by
     have e1:(n'*(R.s.size+1)+a') / (R.s.size+1)=n':=by
      rw[Nat.mul_comm,Nat.mul_add_div (by omega),Nat.div_eq_of_lt (by omega),Nat.add_zero]
     have e2:(n*(R.s.size+1)+a) / (R.s.size+1)=n:=by
      have:=HHa.out
      rw[Nat.mul_comm,Nat.mul_add_div (by omega),Nat.div_eq_of_lt (by omega),Nat.add_zero]
     rw[<-e1,hj,<-fU,e2]
    have haa:a'=a:=by rw[SO]at hj;omega
    subst SO;subst haa
    obtain⟨o0,h3,h4⟩:=mO HH.out
    refine⟨f,o0,h3,?_⟩
    rw[<-Option.some.inj E3,HX.out]
    exact HCl.out.trans (by rw[h4];rfl)
   ·rw[if_neg hj]at E3
    exact rY.out.val n' a' x OC J5 E3
  obtain⟨fb0,fb1,fb2,fb3⟩:=di Ro.out.fld.at_
  have SR:ai w3 R.cb=some (.cells (kp (fun j=>if j=k then some X else c' j) R.N) 121 (0,0)):=qY
  have qcA:=m8 (fun j=>if j=k then some X else c' j) R.N
  have hg3:=Ac (fun j=>if j=k then some X else c' j) Nf
  rw[if_pos rfl]at hg3
  have hzo:ai w3 w.heap.size=some (.cells xW 121 (0,0)):=hz3
  have U9:=kJ
  have zE:Hid (aa (fun j=>j=R.cb) w w3):=by
   have q1:aa (fun j=>j=w.heap.size+1\/j=R.cb) w w2:=(K01.out.mono (fun _ _ x=>x.elim)).trans tK.out
   have q2:aa (fun j=>j=R.cb) w w2:=q1.mono (fun j hj x=>by
    rcases x with x | x
    ·omega
    ·exact x)
   exact q2.trans zP
  generalize kp (fun j=>if j=k then some X else c' j) R.N=CC at *
  clear gT qY zP iz hz3 Sh lE Dp Do eQ ta0 ta2 fa0 fa1 fa2 fa3
  go_wp2
  have C5:(w3.setCells w.heap.size 0 (cO (some X))).heap[w.heap.size]?=some (.cells (cO (some X)).toArray 121 (0,0)):=by
   rw[eu w.heap.size (cO (some X)) 0 _ xW 121 hzo (by rw[Qg,U9];decide),tB (by rw[U9,Qg])]
  have vu:=dR w.heap.size (cO (some X)) 0 w3
  refine bodyPost_ret (results_cell_row (p:=6) (ty:=121) Tryz.results58 _ _ w.heap.size 121 _ _ _ (by simp) C5 Tryz.underlying121 rfl (by rw[u6];simp[dv])) rfl ⟨?_,⟨_,Ro.out.kept vu (fun e=>by have e':R.fb=w.heap.size:=e;omega) (fun e=>by have e':R.cb=w.heap.size:=e;omega) (fun j e _=>⟨xW,121,(by have e':j=w.heap.size:=e;rw[e'];exact hzo),.inl rfl⟩)⟩,?_⟩
  ·rw[<-HCl.out,<-HX.out]
  ·exact zE.out.then vu (fun i hi e=>by have e':i=w.heap.size:=e;omega)
end Go.Proofs.YtagklnaaoclmhaaGreatDoor
namespace Go.Proofs.YtagklnaaoclmhaaGreatDoor
open Go.RowKit
attribute [local go_sem ↓] bw aX aZ aY aF bU bB bF bD cC bT bV cg bN
attribute [local go_sem] bc aQ aS bY bv aT aU aV aW aD bG bp bu bi bX bJ bK bx cA b9 cd bf aK au aN
theorem D1 {R:Rc}{c:Nat->Option Cl}{tv:Value}{N:Nd}{a tb t:Nat}{far:Int × Nat}{rn:Nat}{w w':World}(ht:mX (am R.s) R.s.size N a=some t)(hS:m7 R w c tv)(hT:cz w tb far rn)(gW:rn<=cJ)(hf:-1<=far.1)(K:aa (fun _=>False) w w'):fu R c tv (Md (am R.s) R.s.size N a) a tb far rn w (.returned (.tuple #[.int .i64 (t:Int),.bool true])) w':=by
 have ho:Md (am R.s) R.s.size N a=⟨some t,[],0,[]⟩:=by unfold Md;rw[ht];rfl
 rw[ho]
 refine⟨rfl,?_,⟨c,hS.same K⟩,K.mono (fun _ _ x=>x.elim)⟩
 have h1:dt far (cH [])=far:=kX hf
 have h2:min cJ (rn+0)=rn:=by omega
 show cz w' tb (dt far (cH [])) (min cJ (rn+0))
 rw[h1,h2]
 exact K.blk hT (fun x=>x)
theorem BT {R:Rc}{c:Nat->Option Cl}{tv:Value}{N:Nd}{a tb:Nat}{far:Int × Nat}{rn:Nat}{w w1 w':World}(ht:mX (am R.s) R.s.size N a=none)(hS:m7 R w c tv)(hT:cz w tb far rn)(gW:rn<=cJ)(K:aa (fun _=>False) w w1)(hT':cz w' tb (fI far (a,N.term)) rn)(K':aa (fun k=>k=tb) w1 w'):fu R c tv (Md (am R.s) R.s.size N a) a tb far rn w (.returned (.tuple #[.int .i64 (a:Int),.bool false])) w':=by
 have ho:Md (am R.s) R.s.size N a=⟨none,[(a,N.term)],0,[]⟩:=by unfold Md;rw[ht];rfl
 have hft:¬R.fb=tb:=fun e=>by
  have h1:w.heap[R.fb]?=_:=hS.fld.at_
  have h2:w.heap[tb]?=_:=hT
  rw[e,h2]at h1
  simp at h1
 have xl:¬R.cb=tb:=fun e=>by
  have h1:w.heap[R.cb]?=_:=hS.cel
  have h2:w.heap[tb]?=_:=hT
  rw[e,h2]at h1
  simp at h1
 rw[ho]
 have sM:cz w1 tb far rn:=K.blk hT (fun x=>x)
 refine⟨rfl,?_,⟨c,(hS.same K).kept K' hft xl (fun j e _=>⟨vj far rn,185,(by have e':j=tb:=e;rw[e'];exact sM),.inr (.inl rfl)⟩)⟩,(K.mono (fun _ _ x=>x.elim)).trans (K'.mono (fun _ _ x=>Or.inl x))⟩
 have h1:dt far (cH [(a,N.term)])=fI far (a,N.term):=by rw[As,po]
 have h2:min cJ (rn+0)=rn:=by omega
 show cz w' tb (dt far (cH [(a,N.term)])) (min cJ (rn+0))
 rw[h1,h2]
 exact hT'
theorem G2 {R:Rc}(hs:R.s.size<=60)(zL:R.ns.length<=5000)(A2:∀i,i<R.ns.length->(ap R.ns i).term<41){i a tb:Nat}{far:Int × Nat}{rn:Nat}{c:Nat->Option Cl}{tv:Value}{w:World}(hi:i<R.ns.length)(ha:a<=R.s.size)(co:(ap R.ns i).kind=1\/(ap R.ns i).kind=2)(hS:m7 R w c tv)(ht:cz w tb far rn)(gW:rn<=cJ)(hf:-1<=far.1):
  Calls Tryz.prog 89 #[.pointer (some ⟨R.fb,0,none⟩),.int .i64 (i:Int),.int .i64 (a:Int),.pointer (some ⟨tb,0,none⟩)] w fun e w'=>fu R c tv (Md (am R.s) R.s.size (ap R.ns i) a) a tb far rn w e w':=by
 obtain⟨f0,f1,f2,f3⟩:=di hS.fld.at_
 have mz:=av f0
 have eM:i<(aq R.G).1.ns.length:=hi
 obtain⟨g,iH,nc,v,gz,iR,yJ,gh,qz,NI,c9,dV⟩:=hS.rdy.rg.nodes.get eM
 obtain⟨g0,g1,gx⟩:=hS.rdy.rg.gis.cells
 rw[iR]at g0
 have dm:((w.alloc (.cells df 179)).setRow w.heap.size nc)=w.alloc (.cells nc 179):=World.setRow_alloc_new w df nc 179
 have ho:=cM NI.one
 have lE:Sz nc:=NI.size
 have hz:Sz df:=cy
 have gC:∀j,(w.alloc (.cells nc 179)).cell? ⟨w.heap.size,j,none⟩=nc[j]?:=fun j=>al (au w _)
 have jo:ap R.ns i=(aq R.G).1.ns[i]:=bA hi
 have jc:=A2 i hi
 rw[jo]at co jc ⊢
 have eZ:=NI.kind
 have k3:=NI.term
 have ni:=NI.bits
 obtain⟨ND,oa⟩:∃X,X=(aq R.G).1.ns[i]:=⟨_,rfl⟩
 rw[<-oa]at co jc eZ k3 ni ⊢
 have qA:tb<w.heap.size:=ag (show ai w tb=_ from ht)
 have K1:aa (fun _=>False) w (w.alloc (.cells nc 179)):=(aa.refl _ w).alloc _
 have Gz:=wY tb far rn a ND.term jc (w.alloc (.cells nc 179)) (K1.blk ht (fun x=>x))
 have HS:=ae hS
 have HT:=ae ht
 have jE:=ae K1
 unfold ee at eZ k3
 have iJ:∀t,mX (am R.s) R.s.size ND a=t->mX (am R.s) R.s.size ND a=t:=fun _ h=>h
 have M5:mX (am R.s) R.s.size ND a=if a<R.s.size/\(ND.kind=2\/wB ND.rng (am R.s a)=true) then some (a+1) else none:=by
  unfold mX;rw[if_neg (by omega)]
 have sA:=ae M5
 clear hS ht K1 iJ M5 c9 dV NI gx jo oa
 by_cases kL:a<R.s.size
 ·have Ip:am R.s a<256:=by rw[cZ kL];exact(R.s[a]).toNat_lt
  have v8:=ni (am R.s a) Ip
  rw[cZ kL]at v8
  have eL:R.s[a].toNat<256:=(R.s[a]).toNat_lt
  have dY:((R.s[a].toNat:Nat):Int)<256:=by omega
  rcases co with co | co
  ·rw[co]at eZ
   by_cases fm:wB ND.rng (R.s[a].toNat)=true
   ·rw[fm]at v8
    have hy:mX (am R.s) R.s.size ND a=some (a+1):=by rw[sA.out,if_pos ⟨kL,.inr (by rw[cZ kL];exact fm)⟩]
    go_enter Tryz.func89,Tryz.ntmps89
    go_wp2
    go_ret2
    exact D1 hy HS.out HT.out gW hf jE.out
   ·have oJ:wB ND.rng (R.s[a].toNat)=false:=by simpa using fm
    rw[oJ]at v8
    have hy:mX (am R.s) R.s.size ND a=none:=by rw[sA.out,if_neg (fun x=>x.2.elim (fun y=>by omega) (fun y=>fm (by rw[cZ kL]at y;exact y)))]
    go_enter Tryz.func89,Tryz.ntmps89
    go_wp2_with fail
    refine Gz.mono ?_
    rintro e w2 ⟨rfl,h2,K2⟩
    go_wp2
    go_ret2
    exact BT hy HS.out HT.out gW jE.out h2 K2
  ·rw[co]at eZ
   have hy:mX (am R.s) R.s.size ND a=some (a+1):=by rw[sA.out,if_pos ⟨kL,.inl co⟩]
   go_enter Tryz.func89,Tryz.ntmps89
   go_wp2
   go_ret2
   exact D1 hy HS.out HT.out gW hf jE.out
 ·have hy:mX (am R.s) R.s.size ND a=none:=by rw[sA.out,if_neg (fun x=>kL x.1)]
  rcases co with co | co
  ·rw[co]at eZ
   go_enter Tryz.func89,Tryz.ntmps89
   go_wp2_with fail
   refine Gz.mono ?_
   rintro e w2 ⟨rfl,h2,K2⟩
   go_wp2
   go_ret2
   exact BT hy HS.out HT.out gW jE.out h2 K2
  ·rw[co]at eZ
   go_enter Tryz.func89,Tryz.ntmps89
   go_wp2_with fail
   refine Gz.mono ?_
   rintro e w2 ⟨rfl,h2,K2⟩
   go_wp2
   go_ret2
   exact BT hy HS.out HT.out gW jE.out h2 K2
structure Cv (far:Int × Nat)(rn:Nat)(o:Ot)(gc:Int × Nat)(p8:Nat)(ev:List (Nat × Nat))(n:Nat):Prop where
 fr:dt gc (cH ev)=dt far (cH o.ev)
 rr:min cJ (p8+n)=min cJ (rn+o.rn)
theorem Cv.same {far:Int × Nat}{rn:Nat}{o:Ot}:Cv far rn o far rn o.ev o.rn:=⟨rfl,rfl⟩
theorem Cv.step {far gc:Int × Nat}{rn p8 n1 n2:Nat}{o:Ot}{e1 e2:List (Nat × Nat)}(h:Cv far rn o gc p8 (e1++e2) (n1+n2)):Cv far rn o (dt gc (cH e1)) (min cJ (p8+n1)) e2 n2:=by
 refine⟨?_,?_⟩
 ·rw[fA,<-kr];exact h.fr
 ·have:=h.rr;omega
theorem Cv.last {far gc:Int × Nat}{rn p8:Nat}{o:Ot}(h:Cv far rn o gc p8 [] 0)(hf:-1<=gc.1)(hr:p8<=cJ):gc=dt far (cH o.ev)/\p8=min cJ (rn+o.rn):=by
 have h1:=h.fr
 have h2:=h.rr
 have h3:dt gc (cH [])=gc:=kX hf
 rw[h3]at h1
 exact⟨h1,by omega⟩
theorem Cv.lastE {far gc:Int × Nat}{rn p8 n:Nat}{o:Ot}{e:List (Nat × Nat)}(h:Cv far rn o gc p8 e n):dt gc (cH e)=dt far (cH o.ev)/\min cJ (p8+n)=min cJ (rn+o.rn):=⟨h.fr,h.rr⟩
theorem lj {R:Rc}{c c':Nat->Option Cl}{tv:Value}{o:Ot}{a tb:Nat}{far gc:Int × Nat}{rn p8:Nat}{w w':World}{e:Ending}(hS:m7 R w' c' tv)(hT:cz w' tb gc p8)(hK:aa (fun k=>k=tb\/k=R.cb) w w')(hf:gc=dt far (cH o.ev))(hr:p8=min cJ (rn+o.rn))
  (he:e=.returned (.tuple #[.int .i64 ((o.to.getD a:Nat):Int),.bool o.to.isSome])):fu R c tv o a tb far rn w e w':=⟨he,by rw[<-hf,<-hr];exact hT,⟨c',hS⟩,hK⟩
theorem NP (t:List UInt8):(ba t).size=t.length:=by show t.toArray.size=_;simp
theorem TJ (s:ByteArray)(a:Nat)(t:List UInt8)(h:a+t.length<=s.size):((s.extract a (a+t.length)).toList == (ba t).toList)=sY (am s) s.size a t:=by
 have hx:s.extract a (a+t.length)=ba ((s.data.toList.drop a).take t.length):=by
  rw[kQ s a (a+t.length) h]
  congr 2
  omega
 unfold sY
 rw[decide_eq_true h,Bool.true_and,hx,dS,dS,Bool.eq_iff_iff,beq_iff_eq,mW t rfl h,List.all_eq_true]
 constructor
 ·intro hb k hk
  simpa using hb k (List.mem_range.1 hk)
 ·intro hb k hk
  simpa using hb k (List.mem_range.2 hk)
theorem G3 {R:Rc}(hs:R.s.size<=60)(zL:R.ns.length<=5000)(A2:∀i,i<R.ns.length->(ap R.ns i).term<41)(Dp:∀i,i<R.ns.length->(ap R.ns i).text.length<=1000){i a tb:Nat}{far:Int × Nat}{rn:Nat}{c:Nat->Option Cl}{tv:Value}{w:World}(hi:i<R.ns.length)(ha:a<=R.s.size)(co:(ap R.ns i).kind=0)(hS:m7 R w c tv)(ht:cz w tb far rn)(gW:rn<=cJ)(hf:-1<=far.1):
  Calls Tryz.prog 89 #[.pointer (some ⟨R.fb,0,none⟩),.int .i64 (i:Int),.int .i64 (a:Int),.pointer (some ⟨tb,0,none⟩)] w fun e w'=>fu R c tv (Md (am R.s) R.s.size (ap R.ns i) a) a tb far rn w e w':=by
 obtain⟨f0,f1,f2,f3⟩:=di hS.fld.at_
 have mz:=av f0
 have eM:i<(aq R.G).1.ns.length:=hi
 obtain⟨g,iH,nc,v,gz,iR,yJ,gh,qz,NI,c9,dV⟩:=hS.rdy.rg.nodes.get eM
 obtain⟨g0,g1,gx⟩:=hS.rdy.rg.gis.cells
 rw[iR]at g0
 have dm:((w.alloc (.cells df 179)).setRow w.heap.size nc)=w.alloc (.cells nc 179):=World.setRow_alloc_new w df nc 179
 have ho:=cM NI.one
 have lE:Sz nc:=NI.size
 have hz:Sz df:=cy
 have gC:∀j,(w.alloc (.cells nc 179)).cell? ⟨w.heap.size,j,none⟩=nc[j]?:=fun j=>al (au w _)
 have jo:ap R.ns i=(aq R.G).1.ns[i]:=bA hi
 have jc:=A2 i hi
 have oL:=Dp i hi
 rw[jo]at co jc oL ⊢
 have eZ:=NI.kind
 have k3:=NI.term
 have k1:=NI.text
 obtain⟨ND,oa⟩:∃X,X=(aq R.G).1.ns[i]:=⟨_,rfl⟩
 rw[<-oa]at co jc oL eZ k3 k1 ⊢
 have qA:tb<w.heap.size:=ag (show ai w tb=_ from ht)
 have K1:aa (fun _=>False) w (w.alloc (.cells nc 179)):=(aa.refl _ w).alloc _
 have Gz:=fun X (hX:aa (fun _=>False) w X)=>wY tb far rn a ND.term jc X (hX.blk ht (fun x=>x))
 have HS:=ae hS
 have HT:=ae ht
 have jE:=ae K1
 unfold ee at eZ k3
 rw[co]at eZ
 have sA:Hid (mX (am R.s) R.s.size ND a=if sY (am R.s) R.s.size a ND.text then some (a+ND.text.length) else none):=by
  unfold Hid mX;rw[if_pos co]
 have Ou:=TJ R.s a ND.text
 have Do:=NP ND.text
 have HL:Hid (sY (am R.s) R.s.size a ND.text=true->a+ND.text.length<=R.s.size):=yZ
 generalize sY (am R.s) R.s.size a ND.text=lb at *
 generalize ba ND.text=TX at *
 obtain⟨L,hL⟩:∃L,L=ND.text.length:=⟨_,rfl⟩
 rw[<-hL]at oL Ou Do sA HL
 clear hS ht K1 c9 dV NI gx jo oa hL
 by_cases nj:a+L<=R.s.size
 ·have hq:=Ou nj
  have qa3:(a:Int)+(L:Int)<=(R.s.size:Int):=by omega
  clear Ou HL
  cases lb
  ·have hy:Hid (mX (am R.s) R.s.size ND a=none):=by unfold Hid;rw[sA.out,if_neg (by simp)]
   clear sA
   go_enter Tryz.func89,Tryz.ntmps89
   go_wp2_with fail
   go_quiet (fail)
   go_wp2_with fail
   refine(Gz _ (jE.out.drewN _)).mono ?_
   rintro e w2 ⟨rfl,h2,K2⟩
   go_wp2
   go_ret2
   exact BT hy.out HS.out HT.out gW (jE.out.drewN _) h2 K2
  ·have hy:Hid (mX (am R.s) R.s.size ND a=some (a+L)):=by unfold Hid;rw[sA.out,if_pos rfl]
   clear sA
   go_enter Tryz.func89,Tryz.ntmps89
   go_wp2_with fail
   go_quiet (fail)
   go_wp2
   go_ret2
   exact D1 hy.out HS.out HT.out gW hf (jE.out.drewN _)
 ·have AI:lb=false:=by
   cases lb
   ·rfl
   ·exact absurd (HL.out rfl) nj
  have qa3:decide ((a:Int)+(L:Int)<=(R.s.size:Int))=false:=by simp;omega
  have SF:¬(a:Int)+(L:Int)<=(R.s.size:Int):=by omega
  have hy:Hid (mX (am R.s) R.s.size ND a=none):=by unfold Hid;rw[sA.out,if_neg (by rw[AI];simp)]
  clear sA AI HL Ou
  go_enter Tryz.func89,Tryz.ntmps89
  go_wp2_with fail
  go_quiet (fail)
  go_wp2_with fail
  refine(Gz _ (jE.out.drewN _)).mono ?_
  rintro e w2 ⟨rfl,h2,K2⟩
  go_wp2
  go_ret2
  exact BT hy.out HS.out HT.out gW (jE.out.drewN _) h2 K2
theorem Ad {step:Nat->Option Ot}{j:Nat}{l:List Nat}{p:Ot}(h:iP step (j :: l)=some p):∃oj,step j=some oj/\((∃t,oj.to=some t/\p=oj)\/(oj.to=none/\∃p2,iP step l=some p2/\p=⟨p2.to,oj.ev++p2.ev,oj.rn+p2.rn,p2.tr⟩)):=by
 rw[iP]at h
 cases hx:step j with
 | none=>rw[hx]at h;cases h
 | some oj=>
  refine⟨oj,rfl,?_⟩
  rw[hx]at h
  simp only at h
  cases eQ:oj.to with
  | some t=>
   rw[eQ]at h
   simp only[Option.isSome_some,if_true,Option.some.injEq]at h
   exact .inl ⟨t,rfl,h.symm⟩
  | none=>
   rw[eQ]at h
   simp only[Option.isSome_none]at h
   cases hl:iP step l with
   | none=>rw[hl]at h;cases h
   | some p2=>
    rw[hl]at h
    simp only[Option.map_some,Bool.false_eq_true,if_false,Option.some.injEq]at h
    exact .inr ⟨rfl,p2,rfl,h.symm⟩
theorem oU {w:World}{k e:Nat}{c:Array Value}{tb:Nat}{far:Int × Nat}{rn:Nat}(ho:ai w k=some (.cells c e (0,0)))(ht:cz w tb far rn)(he:e≠185):¬k=tb:=fun x=>by
 subst x
 have h2:w.heap[k]?=_:=ht
 rw[show w.heap[k]?=_ from ho]at h2
 simp at h2
 exact he h2.2
theorem qR {w:World}{k e cb N:Nat}{c:Array Value}{cl:Nat->Option Cl}(ho:ai w k=some (.cells c e (0,0)))(ht:oY w cb N cl)(he:e≠121):¬k=cb:=fun x=>by
 subst x
 have h2:w.heap[k]?=_:=ht
 rw[show w.heap[k]?=_ from ho]at h2
 simp at h2
 exact he h2.2
structure Ml (R:Rc)(tv:Value)(w0:World)(kb:Nat)(nc:Array Value)(tb:Nat)(far:Int × Nat)(rn:Nat)(wz:World):Prop where
 st:∃c,m7 R wz c tv
 trc:cz wz tb far rn
 rn:rn<=cJ
 fa:-1<=far.1
 kept:aa (fun k=>k=tb\/k=R.cb) w0 wz
 nod:ai wz kb=some (.cells nc 179 (0,0))
theorem Ml.next {R:Rc}{tv:Value}{w0 wz w1:World}{kb tb a:Nat}{nc:Array Value}{far:Int × Nat}{rn:Nat}{o:Ot}{c:Nat->Option Cl}{e:Ending}(h:Ml R tv w0 kb nc tb far rn wz)(hO:fu R c tv o a tb far rn wz e w1):Ml R tv w0 kb nc tb (dt far (cH o.ev)) (min cJ (rn+o.rn)) w1:=by
 obtain⟨c0,rd⟩:=h.st
 refine⟨hO.st,hO.trc,Nat.min_le_left _ _,yr h.fa,h.kept.trans hO.kept,bI h.nod hO.kept (fun x=>?_)⟩
 rcases x with x | x
 ·exact oU h.nod h.trc (by decide) x
 ·exact qR h.nod rd.cel (by decide) x
theorem Ml.subs {R:Rc}{tv:Value}{w0 wz:World}{kb tb:Nat}{nc:Array Value}{far far0:Int × Nat}{rn rn0:Nat}{c0:Nat->Option Cl}{base:Nat}{v:Value}{l:List Nat}(h:Ml R tv w0 kb nc tb far rn wz)(ZM:cz w0 tb far0 rn0)(rd:m7 R w0 c0 tv)(c9:w0.ownsRow base 3 1 v l.length (l.map ee)):wz.ownsRow base 3 1 v l.length (l.map ee):=
 az c9 h.kept (fun m e x=>by
  obtain⟨y,hy⟩:=ak c9 e
  rcases x with x | x
  ·exact oU hy ZM (by decide) x
  ·exact qR hy rd.cel (by decide) x)
theorem G1 {R:Rc}{f:Nat}(hM:mf R f)(hs:R.s.size<=60)(zL:R.ns.length<=5000)(ew:∀i,i<R.ns.length->∀j∈(ap R.ns i).subs,j<R.ns.length){i a dp tb:Nat}{o:Ot}{far:Int × Nat}{rn:Nat}{c:Nat->Option Cl}{tv:Value}{w:World}(hi:i<R.ns.length)(ha:a<=R.s.size)(co:(ap R.ns i).kind=4)(hm:iP (fun j=>bR (am R.s) R.s.size R.rs R.ns f j a dp) (ap R.ns i).subs=some o)(hS:m7 R w c tv)(ht:cz w tb far rn)(gW:rn<=cJ)(hf:-1<=far.1):
  Calls Tryz.prog 89 #[.pointer (some ⟨R.fb,0,none⟩),.int .i64 (i:Int),.int .i64 (a:Int),.pointer (some ⟨tb,0,none⟩)] w fun e w'=>fu R c tv o a tb far rn w e w':=by
 obtain⟨f0,f1,f2,f3⟩:=di hS.fld.at_
 have mz:=av f0
 have eM:i<(aq R.G).1.ns.length:=hi
 obtain⟨g,iH,nc,v,gz,iR,yJ,gh,qz,NI,c9,dV⟩:=hS.rdy.rg.nodes.get eM
 obtain⟨g0,g1,gx⟩:=hS.rdy.rg.gis.cells
 rw[iR]at g0
 have dm:((w.alloc (.cells df 179)).setRow w.heap.size nc)=w.alloc (.cells nc 179):=World.setRow_alloc_new w df nc 179
 have ho:=cM NI.one
 have lE:Sz nc:=NI.size
 have hz:Sz df:=cy
 have gC:∀j,(w.alloc (.cells nc 179)).cell? ⟨w.heap.size,j,none⟩=nc[j]?:=fun j=>al (au w _)
 have jo:ap R.ns i=(aq R.G).1.ns[i]:=bA hi
 have yH:=ew i hi
 rw[jo]at co hm yH
 have eZ:=NI.kind
 have k6:=NI.subs
 obtain⟨ND,oa⟩:∃X,X=(aq R.G).1.ns[i]:=⟨_,rfl⟩
 rw[<-oa]at co eZ hm yH c9
 have qA:tb<w.heap.size:=ag (show ai w tb=_ from ht)
 have K1:aa (fun _=>False) w (w.alloc (.cells nc 179)):=(aa.refl _ w).alloc _
 unfold ee at eZ
 rw[co]at eZ
 obtain⟨kb,dx⟩:∃kb,kb=w.heap.size:=⟨_,rfl⟩
 have qv:ai (w.alloc (.cells nc 179)) kb=some (.cells nc 179 (0,0)):=(by rw[dx];exact au _ _)
 have Ny:Hid (Ml R tv (w.alloc (.cells nc 179)) kb nc tb far rn (w.alloc (.cells nc 179))):=⟨⟨c,hS.same K1⟩,K1.blk ht (fun x=>x),gW,hf,aa.refl _ _,qv⟩
 have Dm:=az c9 K1 (fun _ _ x=>x)
 have PP:=ae (hS.same K1)
 have Rp:Hid (cz (w.alloc (.cells nc 179)) tb far rn):=K1.blk ht (fun x=>x)
 have jE:=ae K1
 have HM:=ae hm
 have ws:=dG c9
 obtain⟨p0,oV,jH⟩:=an c9
 have vV:=fF yH
 have R5:Hid (∀q,q<ND.subs.length->ND.subs.getD q 0<R.ns.length):=vV
 clear hm c9 dV gx jo oa vV yH
 go_enter Tryz.func89,Tryz.ntmps89
 go_wp2_with fail
 rw[<-dx]
 generalize oi:(w.alloc (.cells nc 179))=w0 at *
 have PR:=ae dx
 clear dx dm gC oi hS ht K1
 go_loopg [12] ND.subs.length (fun gn v12 wz=>∃(q:Nat) (gc:Int × Nat) (p8:Nat) (p:Ot),q<=ND.subs.length/\gn=ND.subs.length-q/\v12=.int .i64 q/\Hid (Ml R tv w0 kb nc tb gc p8 wz)/\Hid (iP (fun j=>bR (am R.s) R.s.size R.rs R.ns f j a dp) (ND.subs.drop q)=some p/\p.to=o.to/\Cv far rn o gc p8 p.ev p.rn))
 case atStart=>exact⟨0,far,rn,o,by omega,rfl,rfl,Ny,HM.out,rfl,Cv.same⟩
 case round=>
  obtain⟨q,gc,p8,p,hq,iI,rfl,HL,HP⟩:=hrel
  have lR:=ae iI
  clear iI
  obtain⟨c1,iL⟩:=HL.out.st
  have cU:wr.cell? ⟨kb,261,none⟩=some v:=by rw[al HL.out.nod];exact k6
  have et:=HL.out.subs Rp.out PP.out Dm
  by_cases hqlt:q<ND.subs.length
  ·obtain⟨sb,iK,hv,kj⟩:=cD et hqlt
   rw[hv]at cU
   obtain⟨h1,h2,h3⟩:=HP.out
   rw[fH hqlt]at h1
   obtain⟨oj,vD,rq⟩:=Ad h1
   have hj:=R5.out q hqlt
   have bO:=hM (ND.subs.getD q 0) a dp oj tb gc p8 c1 tv wr hj ha vD iL HL.out.trc HL.out.rn HL.out.fa
   have xZ:=ae rq
   generalize ND.subs.getD q 0=j at *
   have H2:=ae h2
   have H3:=ae h3
   have HC:=ae bO
   have mG:(q:Int)<(ND.subs.length:Int):=by omega
   have AG:j<=5000:=by omega
   clear h1 vD rq bO HP et iL h2 h3 hv jH
   go_wp2_with fail
   refine HC.out.mono ?_
   intro e w7 hO
   have he:=hO.res
   subst he
   have iM:=ae (HL.out.next hO)
   have Tn:w7.cell? ⟨kb,261,none⟩=some (.slice (some ⟨sb,0,none⟩) ND.subs.length iK):=by
    rw[al iM.out.nod]
    rw[al HL.out.nod]at cU
    exact cU
   rcases xZ.out with⟨t,ht,rfl⟩ | ⟨ht,p2,lO,rfl⟩
   ·rw[ht]
    simp only[Option.getD_some,Option.isSome_some]
    have HT:=ae ht
    clear ht xZ HC hO
    go_wp2
    go_ret2
    obtain⟨c7,jN⟩:=iM.out.st
    obtain⟨e1,e2⟩:=H3.out.lastE
    exact lj jN iM.out.trc ((jE.out.mono (fun _ _ x=>x.elim)).trans iM.out.kept) e1 e2 (by rw[<-H2.out,HT.out];rfl)
   ·rw[ht]
    simp only[Option.getD_none,Option.isSome_none]
    have nW:=ae lO
    clear ht lO xZ HC hO
    go_wp2
    go_roundg (ND.subs.length-(q+1))
    case measure=>have:=lR.out;omega
    case rel=>exact⟨q+1,_,_,p2,by omega,rfl,by go_num,iM.out,nW.out,H2.out,H3.out.step⟩
  ·obtain⟨h1,h2,h3⟩:=HP.out
   rw[List.drop_of_length_le (by omega),iP]at h1
   have N0:=Option.some.inj h1
   subst N0
   rw[jH]at cU
   have H2:=ae h2
   have H3:=ae h3
   clear h1 h2 h3 HP jH et
   go_wp2
   go_ret2
   obtain⟨e1,e2⟩:=H3.out.last HL.out.fa HL.out.rn
   exact lj iL HL.out.trc ((jE.out.mono (fun _ _ x=>x.elim)).trans HL.out.kept) e1 e2 (by rw[<-H2.out];rfl)
end Go.Proofs.YtagklnaaoclmhaaGreatDoor
