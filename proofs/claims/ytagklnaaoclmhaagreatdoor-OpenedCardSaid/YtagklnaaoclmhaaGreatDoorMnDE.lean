import Derived.Test.YtagklnaaoclmhaaGreatDoorMnDC
import Derived.Test.YtagklnaaoclmhaaGreatDoorMnDD
import Derived.Deep.DeepAppendWide
set_option linter.unusedSimpArgs false
set_option linter.unusedVariables false
set_option maxRecDepth 100000
set_option maxHeartbeats 16000000
namespace Go.Proofs.YtagklnaaoclmhaaGreatDoor
open Go.RowKit
attribute [local go_sem ↓] bw aX aZ aY aF bU bB bF bD cC bT bV cg bN
attribute [local go_sem] bc aQ aS bY bv aT aU aV aW aD bG bp bu bi bX bJ bK bx cA b9 cd bf aK au aN
theorem rD {R:Rc}(hs:R.s.size<=60)(zL:R.ns.length<=5000){i a tb:Nat}{o:Ot}{far:Int × Nat}{rn:Nat}{c:Nat->Option Cl}{tv:Value}{w:World}(hi:i<R.ns.length)(ha:a<=R.s.size)(co:(ap R.ns i).kind=6\/(ap R.ns i).kind=7\/(ap R.ns i).kind=8)(hS:m7 R w c tv)(ht:cz w tb far rn)
  (jc:∀(nc:Array Value) (v:Value) (base:Nat) (w1:World),aJ nc (ap R.ns i) v->w1.ownsRow base 3 1 v (ap R.ns i).subs.length ((ap R.ns i).subs.map ee)->m7 R w1 c tv->cz w1 tb far rn->Calls Tryz.prog 137 #[.pointer (some ⟨R.fb,0,none⟩),.agg nc,.int .i64 (a:Int),.pointer (some ⟨tb,0,none⟩)] w1 fun e w'=>fu R c tv o a tb far rn w1 e w'):
  Calls Tryz.prog 89 #[.pointer (some ⟨R.fb,0,none⟩),.int .i64 (i:Int),.int .i64 (a:Int),.pointer (some ⟨tb,0,none⟩)] w fun e w'=>fu R c tv o a tb far rn w e w':=by
 obtain⟨f0,f1,f2,f3⟩:=di hS.fld.at_
 have mz:=av f0
 have eM:i<(aq R.G).1.ns.length:=hi
 obtain⟨g,iH,nc,v,gz,iR,yJ,gh,qz,NI,c9,dV⟩:=hS.rdy.rg.nodes.get eM
 obtain⟨g0,g1,gx⟩:=hS.rdy.rg.gis.cells
 rw[iR]at g0
 have dm:((w.alloc (.cells df 179)).setRow w.heap.size nc)=w.alloc (.cells nc 179):=World.setRow_alloc_new w df nc 179
 have ho:=cM NI.one
 have lE:Sz nc:=NI.size
 have hz:Sz df:=cy
 have gC:∀j,(w.alloc (.cells nc 179)).cell? ⟨w.heap.size,j,none⟩=nc[j]?:=fun j=>al (au w _)
 have jo:ap R.ns i=(aq R.G).1.ns[i]:=bA hi
 have eZ:=NI.kind
 have K1:aa (fun _=>False) w (w.alloc (.cells nc 179)):=(aa.refl _ w).alloc _
 have qA:tb<w.heap.size:=ag (show ai w tb=_ from ht)
 rw[jo]at jc co
 have bO:=jc nc v _ _ NI (az c9 K1 (fun _ _ x=>x)) (hS.same K1) (K1.blk ht (fun x=>x))
 obtain⟨K,hK⟩:∃K,K=((aq R.G).1.ns[i]).kind:=⟨_,rfl⟩
 unfold ee at eZ
 rw[<-hK]at eZ co
 have SE:∀W:World,kx Tryz.prog (some (.cells nc 179 (0,0))) w.heap.size 0 W=.ok (.value (.agg nc)) W:=fun W=>by
  rw[aQ W nc 179 (0,0) w.heap.size 0 (by rw[NI.size];decide),Nat.zero_add]
  have:nc.extract 0 262=nc:=by rw[<-NI.size];exact Array.extract_size
  rw[this]
 have HC:=ae bO
 have jE:=ae K1
 clear bO K1 hS ht c9 dV gx jo jc NI hK
 rcases co with co | co | co
 all_goals
  subst co
  go_enter Tryz.func89,Tryz.ntmps89
  go_wp2_with fail
  refine HC.out.mono ?_
  intro e w7 hO
  have he:=hO.res
  have HO:=ae hO
  subst he
  clear hO
  go_wp2
  go_ret2
  exact⟨rfl,HO.out.trc,HO.out.st,(jE.out.mono (fun _ _ x=>x.elim)).trans HO.out.kept⟩
structure If (R:Rc):Prop where
 s:R.s.size<=60
 n5:R.ns.length<=5000
 r8:R.rs.length<=8
 is:∀n,n<R.rs.length->cL R.rs n<R.ns.length
 low:∀i,i<R.ns.length->∀j∈(ap R.ns i).subs,j<R.ns.length
 term:∀i,i<R.ns.length->(ap R.ns i).term<41
 tx:∀i,i<R.ns.length->(ap R.ns i).text.length<=1000
 kind:∀i,i<R.ns.length->(ap R.ns i).kind<=10
 one:∀i,i<R.ns.length->6<=(ap R.ns i).kind->(ap R.ns i).subs=[(ap R.ns i).subs.getD 0 0]
 nm:∀i,i<R.ns.length->(ap R.ns i).kind=3->dg R.rs (ap R.ns i).name=some (dI R.rs (ap R.ns i))/\dI R.rs (ap R.ns i)<R.rs.length
 at_:∀f i a dp o t,i<R.ns.length->a<=R.s.size->bR (am R.s) R.s.size R.rs R.ns f i a dp=some o->o.to=some t->a<=t/\t<=R.s.size
 rep:∀f i a dp o t,i<R.ns.length->(ap R.ns i).kind=7\/(ap R.ns i).kind=8->a<=R.s.size->bR (am R.s) R.s.size R.rs R.ns f ((ap R.ns i).subs.getD 0 0) a dp=some o->o.to=some t->a<t/\t<=R.s.size
theorem fM {R:Rc}(hR:If R):∀f,mf R f
 | 0=>fun i a dp o tb far rn c tv w _ _ h=>by rw[bR]at h;cases h
 | f+1=>fun i a dp o tb far rn c tv w hi ha h hS ht gW hf=>by
  have hM:=fM hR f
  have fN:=hR.kind i hi
  rw[bR]at h
  by_cases co:(ap R.ns i).kind<=2
  ·rw[if_pos co]at h
   have h':=Option.some.inj h
   subst h'
   by_cases Cj:(ap R.ns i).kind=0
   ·exact G3 hR.s hR.n5 hR.term hR.tx hi ha Cj hS ht gW hf
   ·exact G2 hR.s hR.n5 hR.term hi ha (by omega) hS ht gW hf
  rw[if_neg co]at h
  by_cases ff:(ap R.ns i).kind=3
  ·rw[if_pos ff]at h
   obtain⟨h1,h2⟩:=hR.nm i hi ff
   cases hx:bR (am R.s) R.s.size R.rs R.ns f (cL R.rs (dI R.rs (ap R.ns i))) a (dp+1) with
   | none=>rw[hx]at h;cases h
   | some p=>
    rw[hx]at h
    simp only[Option.map_some,Option.some.injEq]at h
    subst h
    exact G4 hM hR.s hR.n5 hR.r8 hR.is hi ha ff h1 hx hS ht gW hf
  rw[if_neg ff]at h
  by_cases lc:(ap R.ns i).kind=4
  ·rw[if_pos lc]at h
   exact G1 hM hR.s hR.n5 hR.low hi ha lc h hS ht gW hf
  rw[if_neg lc]at h
  by_cases pC:(ap R.ns i).kind=5
  ·rw[if_pos pC]at h
   exact G5 hM hR.s hR.n5 hR.low (fun i a dp o t h1 h2 h3 h4=>(hR.at_ f i a dp o t h1 h2 h3 h4).2) hi ha pC h hS ht gW hf
  rw[if_neg pC]at h
  have h1:=hR.one i hi (by omega)
  have oL:(ap R.ns i).subs.getD 0 0<R.ns.length:=hR.low i hi _ (by rw[h1];simp)
  by_cases ti:(ap R.ns i).kind=6
  ·rw[if_pos ti]at h
   cases hx:bR (am R.s) R.s.size R.rs R.ns f ((ap R.ns i).subs.getD 0 0) a dp with
   | none=>rw[hx]at h;cases h
   | some p=>
    rw[hx]at h
    simp only[Option.map_some,Option.some.injEq]at h
    subst h
    exact rD hR.s hR.n5 hi ha (.inl ti) hS ht (fun nc v base w1 NI c9 iL ju=>H9 hM hR.s hR.n5 NI c9 ha ti h1 oL hx iL ju gW hf)
  rw[if_neg ti]at h
  by_cases tj:(ap R.ns i).kind=7
  ·rw[if_pos tj]at h
   exact rD hR.s hR.n5 hi ha (.inr (.inl tj)) hS ht (fun nc v base w1 NI c9 iL ju=>xU hM hR.s hR.n5 NI c9 ha (.inl tj) h1 oL (fun t oj u h2 h3 h4=>hR.rep f i t dp oj u hi (.inl tj) h2 h3 h4) (.inr ⟨.inl tj,h⟩) iL ju gW hf)
  rw[if_neg tj]at h
  by_cases lW:(ap R.ns i).kind=8
  ·rw[if_pos lW]at h
   refine rD hR.s hR.n5 hi ha (.inr (.inr lW)) hS ht (fun nc v base w1 NI c9 iL ju=>xU (n:=f+1) hM hR.s hR.n5 NI c9 ha (.inr lW) h1 oL (fun t oj u h2 h3 h4=>hR.rep f i t dp oj u hi (.inr lW) h2 h3 h4) (.inl ⟨lW,rfl,f,rfl,?_⟩) iL ju gW hf)
   cases hx:bR (am R.s) R.s.size R.rs R.ns f ((ap R.ns i).subs.getD 0 0) a dp with
   | none=>simp only[hx]at h;cases h
   | some p=>
    simp only[hx]at h
    refine⟨p,hx,?_⟩
    cases hp:p.to with
    | none=>
     simp only[hp]at h
     have h':=Option.some.inj h
     subst h'
     exact .inl ⟨rfl,rfl,rfl,rfl⟩
    | some u=>
     simp only[hp]at h
     cases hl:gy (fun a=>bR (am R.s) R.s.size R.rs R.ns f ((ap R.ns i).subs.getD 0 0) a dp) f u with
     | none=>rw[hl]at h;cases h
     | some p2=>
      rw[hl]at h
      simp only[Option.map_some,Option.some.injEq]at h
      subst h
      exact .inr ⟨u,rfl,p2,hl,rfl,rfl,rfl⟩
  rw[if_neg lW]at h
  cases hx:bR (am R.s) R.s.size R.rs R.ns f ((ap R.ns i).subs.getD 0 0) a dp with
  | none=>rw[hx]at h;cases h
  | some p=>
   rw[hx]at h
   simp only[Option.map_some,Option.some.injEq]at h
   subst h
   exact GY hM hR.s hR.n5 hi ha (by omega) h1 oL hx hS ht gW hf
theorem uY {P:Program}(w:World)(t ty:TypeId)(base:Nat)(e:TypeId)(i:TypeInfo)(z:Value)(size bytes:Nat)(ht:P.underlying t=some (.slice e))(hi:P.info? e=some i)(hz:i.zero=some z)(xv:i.size=size)(hby:i.bytes=bytes)(U9:z.cells.size=size)(gh:0<size)
  (v:Value) (n:Nat) (xs:List Value) (bW:w.ownsRow base e size v n xs) (ad:Addr) (c:Nat) (news:List Value) (hl:news.length=1*size) (kw:∀j u,news[j]?=some u->w.cell? (ad.add j)=some u) (h1:∀u∈news,u.oneCell'=true)
  (h63:n+1<=maxLen) (hbytes:((n+1)+(n+1) / 4+192)*bytes<=281474976710656) (gV:base<=w.heap.size):
  ∃g cap w',(Builtin.append_ #[t,t] ty #[v,.slice (some ad) 1 c]).run P w=.ok (.slice (some ⟨g,0,none⟩) (n+1) cap) w'/\w'.ownsRow base e size (.slice (some ⟨g,0,none⟩) (n+1) cap) (n+1) (xs++news)/\w.grownBy w' v.ownBlock/\(v.ownBlock=some g\/g=w.heap.size)/\g<w'.heap.size:=by
 obtain⟨v',w',hr,h2,h3,_⟩:=run_append_own_wide (P:=P) w base t ty e i z size bytes ht hi hz xv hby U9 gh v n xs bW ad 1 c news hl kw h1 h63 hbytes gV
 obtain⟨g,cap,rfl,_,bj⟩:=h2.form (by omega)
 refine⟨g,cap,w',hr,h2,h3,?_,bj⟩
 have hm:n+1<=9223372036854775807:=by simp only[maxLen]at h63;omega
 have same:∀(g2 iH:Nat) (w2:World),(Builtin.append_ #[t,t] ty #[v,.slice (some ad) 1 c]).run P w=.ok (.slice (some ⟨g2,0,none⟩) (n+1) iH) w2->g=g2:=by
  intro g2 iH w2 h
  rw[hr]at h
  simp only[Result.ok.injEq,Value.slice.injEq,Option.some.injEq,Addr.mk.injEq]at h
  exact h.1.1.1
 subst xv
 subst hby
 rcases bW.2 with⟨rfl,rfl⟩ | ⟨g0,Ja,gz,rfl,qw,hg,hnc,hcm,lE,htake⟩
 ·right
  exact same _ _ _ (by
   have:=run_append_nil (P:=P) w t ty e i z ht hi hz ad 1 c news hl kw (by omega) (by omega) (by omega)
   simpa using this)
 ·by_cases hroom:n+1<=Ja
  ·left
   have qaM:n*i.size+news.length<=gz.size:=by rw[hl,lE,<-Nat.add_mul];exact Nat.mul_le_mul_right _ hroom
   have:=same _ _ _ (run_append_room (P:=P) w t ty e i ht hi g0 n Ja gz hg ad 1 c news hl kw h1 hroom qaM)
   rw[this];rfl
  ·right
   have XZ:∀j u,xs[j]?=some u->w.cell? ((⟨g0,0,none⟩:Addr).add j)=some u:=bW.cells (g:=g0) rfl
   exact same _ _ _ (run_append_grow (P:=P) w t ty e i z ht hi hz ⟨g0,0,none⟩ n Ja xs bW.1 XZ ad 1 c news hl kw (by omega) (by omega) (growslice_fits_wide (by omega) hbytes))
theorem qo {P:Program}(w:World){ops:Array Oper}{rest:List Oper}{o:Oper}{a:Act}{Q:Exit->Act->World->Prop}(fK:o.guard=none)(s x:Operand)(t:TypeId)
  (ho:o.op=.call { callee:=.builtin .append,args:=#[s,x],argTypes:=#[t,t] })
  (base:Nat) (e:TypeId) (i:TypeInfo) (z:Value) (size bytes:Nat) (ht:P.underlying t=some (.slice e)) (hi:P.info? e=some i) (hz:i.zero=some z)
  (xv:i.size=size) (hby:i.bytes=bytes) (U9:z.cells.size=size) (gh:0<size)
  (v:Value) (n:Nat) (xs:List Value) (hs:a.eval s=v) (bW:w.ownsRow base e size v n xs)
  (ad:Addr) (c:Nat) (news:List Value) (hx:a.eval x=.slice (some ad) 1 c) (hl:news.length=1*size) (kw:∀j u,news[j]?=some u->w.cell? (ad.add j)=some u) (h1:∀u∈news,u.oneCell'=true)
  (h63:n+1<=maxLen) (hbytes:((n+1)+(n+1) / 4+192)*bytes<=281474976710656) (gV:base<=w.heap.size)
  (h:∀g cap w',w'.ownsRow base e size (.slice (some ⟨g,0,none⟩) (n+1) cap) (n+1) (xs++news)->w.grownBy w' v.ownBlock->(v.ownBlock=some g\/g=w.heap.size)->g<w'.heap.size->wpList P ops Q rest (a.put o.dst (.slice (some ⟨g,0,none⟩) (n+1) cap)) w'):wpList P ops Q (o :: rest) a w:=by
 refine wpList_plain fK fun K hK=>?_
 obtain⟨g,cap,w',hr,h2,h3,h4,h5⟩:=uY (P:=P) w t o.type base e i z size bytes ht hi hz xv hby U9 gh v n xs bW ad c news hl kw h1 h63 hbytes gV
 unfold Oper.wp execOp
 simp only[ho,resolve,invoke,builtin,Sem.run_bind,Sem.run_pure,Result.andThen_ok,List.map_toArray,List.map_cons,List.map_nil,hs,hx,hr]
 exact hK _ _ (h g cap w' h2 h3 h4 h5)
def kA:Nat:=6904678719961
structure Gt (R:Rc)(base:Nat)(tv:Value)(L:List iN)(w:World):Prop where
 st:∃c,m7 R w c tv
 own:w.ownsRow base 61 4 tv L.length (L.flatMap ig)
 le:base<=w.heap.size
structure vH (R:Rc)(base:Nat)(tv:Value)(L':List iN)(t:Nat)(w:World)(e:Ending)(w':World):Prop where
 res:e=.returned (.int .i64 (t:Int))
 st:∃Mj,Gt R base Mj L' w'/\(∀k,Mj.ownBlock=some k->k<w.heap.size->tv.ownBlock=some k)
 kept:aa (fun k=>k=R.cb\/k=R.fb\/tv.ownBlock=some k) w w'
def tJ (R:Rc)(f:Nat):Prop:=∀i a dp o t base tv L w,i<R.ns.length->a<=R.s.size->bR (am R.s) R.s.size R.rs R.ns f i a dp=some o->o.to=some t->Gt R base tv L w->L.length+o.tr.length<=kA->dp<=L.length->
 Calls Tryz.prog 90 #[.pointer (some ⟨R.fb,0,none⟩),.int .i64 (i:Int),.int .i64 (a:Int),.int .i64 (dp:Int)] w fun e w'=>vH R base tv (L++o.tr.map nI) t w e w'
theorem vH.more {R:Rc}{base:Nat}{tv zu:Value}{L':List iN}{t:Nat}{w w1 w':World}{e:Ending}(K:aa (fun k=>k=R.cb\/k=R.fb\/tv.ownBlock=some k) w w1)(hb:∀k,zu.ownBlock=some k->k<w.heap.size->tv.ownBlock=some k)(h:vH R base zu L' t w1 e w'):vH R base tv L' t w e w':=by
 obtain⟨Mj,h1,h2⟩:=h.st
 refine⟨h.res,⟨Mj,h1,fun k e hk=>hb k (h2 k e (by have:=K.size;omega)) hk⟩,K.then h.kept (fun k hk x=>?_)⟩
 rcases x with x | x | x
 ·exact .inl x
 ·exact .inr (.inl x)
 ·exact .inr (.inr (hb k x hk))
theorem Bu {w:World}{base e size g n m cap:Nat}{xs:List Value}(h:w.ownsRow base e size (.slice (some ⟨g,0,none⟩) m cap) n xs)(k:Nat)(u:Value)(hk:k<n*size):(w.setCell ⟨g,k,none⟩ u).ownsRow base e size (.slice (some ⟨g,0,none⟩) m cap) n (xs.set k u):=by
 obtain⟨h1,h2⟩:=h
 refine⟨by rw[List.length_set];exact h1,?_⟩
 rcases h2 with⟨h2,_⟩ | ⟨g',kT,gz,hv,hg,hh,r1,r2,r3,r4⟩
 ·simp at h2
 ·have ZQ:=hv
  simp only[Value.slice.injEq,Option.some.injEq,Addr.mk.injEq,and_true]at ZQ
  obtain⟨e1,e2,e3⟩:=ZQ
  subst e1
  refine .inr ⟨g,kT,gz.setIfInBounds k u,hv,hg,aj hh k u,r1,r2,by simpa using r3,?_⟩
  rw[Array.toList_setIfInBounds,List.take_set,r4]
theorem O7 (L1 L2:List iN)(r a dp:Nat)(z:Int)(t:Nat):((L1++⟨r,a,z,dp⟩ :: L2).flatMap ig).set (L1.length*4+2) (.int .i64 (t:Int))=(L1++⟨r,a,(t:Int),dp⟩ :: L2).flatMap ig:=by
 rw[List.flatMap_append,List.flatMap_append,List.flatMap_cons,List.flatMap_cons]
 have hl:(L1.flatMap ig).length=L1.length*4:=uQ L1
 rw[List.set_append_right _ _ (by rw[hl];omega),hl,show L1.length*4+2-L1.length*4=2 by omega]
 rfl
theorem m7.put {R:Rc}{w w':World}{c:Nat->Option Cl}{tv Mj:Value}(h:m7 R w c tv){S:Nat->Prop}(K:aa S w w')(h2:¬S R.cb)(hs:∀k,S k->k<w.heap.size->∃c e,ai w k=some (.cells c e (0,0))/\PX e)(hf:rW w' R.fb R.gb R.s R.cb R.N Mj):m7 R w' c Mj:=
 ⟨hf,K.blk h.cel h2,h.val,h.rdy.kept2 K hs⟩
theorem NZ {w:World}{fb gb cb N:Nat}{s:ByteArray}{tv:Value}(h:rW w fb gb s cb N tv)(Mj:Value):rW (w.setCell ⟨fb,3,none⟩ Mj) fb gb s cb N Mj:=⟨aj h.at_ 3 Mj⟩
theorem oq {w:World}{base n k e:Nat}{tv:Value}{xs:List Value}{c:Array Value}(h:w.ownsRow base 61 4 tv n xs)(ho:ai w k=some (.cells c e (0,0)))(he:e≠61):¬tv.ownBlock=some k:=fun x=>by
 obtain⟨y,hy⟩:=ak h x
 rw[ho]at hy
 simp at hy
 exact he hy.2
theorem sv {R:Rc}{f:Nat}(hR:If R)(hG:tJ R f){r a dp t base:Nat}{p:Ot}{tv:Value}{L:List iN}{w:World}(hr:r<R.rs.length)(ha:a<=R.s.size)(hm:bR (am R.s) R.s.size R.rs R.ns f (cL R.rs r) a (dp+1)=some p)(eQ:p.to=some t)(hT:Gt R base tv L w)(hl:L.length+(p.tr.length+1)<=kA)(hdp:dp<=L.length):
  Calls Tryz.prog 59 #[.pointer (some ⟨R.fb,0,none⟩),.int .i64 (r:Int),.int .i64 (a:Int),.int .i64 (dp:Int)] w fun e w'=>vH R base tv (L++⟨r,a,(t:Int),dp⟩ :: p.tr.map nI) t w e w':=by
 unfold kA at hl
 obtain⟨i0,iC,gH,iD,iz⟩:=info_parts La
 obtain⟨c,hS⟩:=hT.st
 obtain⟨f0,f1,f2,f3⟩:=di hS.fld.at_
 have mz:=av f0
 obtain⟨g0,g1,gx⟩:=hS.rdy.rg.gis.cells
 obtain⟨rb,wH,dU,j0,j1,j2⟩:=hS.rdy.ru.cells hr
 have uw:cL R.rs r=(aq R.G).2[r].is:=by unfold cL;have OC:r<(aq R.G).2.length:=hr;simp[Rc.rs,List.getD_eq_getElem?_getD,OC];rfl
 rw[<-uw]at j2
 have ro:=hR.is r hr
 have zL:=hR.n5
 have sT:=hR.s
 have KP:R.rs.length<=8:=hR.r8
 have Cn:r<(aq R.G).2.length:=hr
 have qbA:(aq R.G).2.length<=8:=KP
 obtain⟨p0,oV,hv⟩:=an hT.own
 subst hv
 have UY:=oq hT.own (show ai w R.fb=_ from hS.fld.at_) (by decide)
 have htc:=oq hT.own (show ai w R.cb=_ from hS.cel) (by decide)
 have qaQ:∃cs,ai w R.gb=some (.cells cs 90 (0,0)):=hS.rdy.rg.gis.obj
 obtain⟨gcs,Nc⟩:=qaQ
 have htg:=oq hT.own Nc (by decide)
 rw[dU]at g1
 have lV:=av g1
 have qbx:∃cs,ai w rb=some (.cells cs 132 (0,0)):=by
  have:=ak (show w.ownsRow R.base 132 3 R.rv (aq R.G).2.length ((aq R.G).2.flatMap f9) from hS.rdy.ru) (k:=rb) (by rw[dU];rfl)
  exact this
 obtain⟨rcs,KT⟩:=qbx
 have E1:=oq hT.own KT (by decide)
 have S2:=ag KT
 have jr:∀w9,aa (fun k=>(Value.slice p0 L.length oV).ownBlock=some k) w w9->w9.cell? ⟨R.fb,3,none⟩=some (.slice p0 L.length oV)/\w9.cell? ⟨R.fb,0,none⟩=some (.pointer (some ⟨R.gb,0,none⟩))/\w9.frozen? ⟨R.fb,3,none⟩=false/\w9.cell? ⟨R.gb,1,none⟩=some (.slice (some ⟨rb,0,none⟩) (aq R.G).2.length wH)/\w9.cell? ⟨rb,r*3+2,none⟩=some (.int .i64 (cL R.rs r:Int)):=fun w9 hk=>
  ⟨(hk.cell (p:=⟨R.fb,3,none⟩) mz UY).trans f3,(hk.cell (p:=⟨R.fb,0,none⟩) mz UY).trans f0,bh (show ai w9 R.fb=_ from hk.blk hS.fld.at_ UY),(hk.cell (p:=⟨R.gb,1,none⟩) lV htg).trans g1,(hk.cell (p:=⟨rb,r*3+2,none⟩) S2 E1).trans j2⟩
 have ku:∀w9 o,(w.alloc o).grownBy w9 (Value.slice p0 L.length oV).ownBlock->aa (fun k=>(Value.slice p0 L.length oV).ownBlock=some k) w w9:=fun w9 o hg=>((aa.refl _ w).alloc _).grown hg (fun k h _=>h)
 have HS:=ae hS
 have HT:=ae hT
 have HM:=ae hm
 have vI:=ae eQ
 have gV:=hT.le
 have vB:¬R.fb=R.gb:=fun e=>by rw[<-e]at Nc;have h2:w.heap[R.fb]?=_:=hS.fld.at_;rw[show w.heap[R.fb]?=_ from Nc]at h2;simp at h2
 have Kl:¬R.fb=rb:=fun e=>by rw[<-e]at KT;have h2:w.heap[R.fb]?=_:=hS.fld.at_;rw[show w.heap[R.fb]?=_ from KT]at h2;simp at h2
 obtain⟨isn,GA⟩:∃x,x=cL R.rs r:=⟨_,rfl⟩
 rw[<-GA]at jr ro
 have HIS:=ae GA
 have qb9:isn<=5000:=by omega
 clear hS hm eQ gx uw dU j0 j1 j2 KT Nc GA g0 hT
 go_enter Tryz.func59,Tryz.ntmps59
 go_wp2_with (at_builtin;refine qo _ rfl _ _ _ rfl base 61 i0 _ 4 32 Tryz.underlying28 iC gH iD iz rfl (by omega) (.slice p0 L.length oV) L.length (L.flatMap ig) (by rfl) (HT.out.own.alloc _) ⟨w.heap.size,0,none⟩ 1 (ig ⟨r,a,0,dp⟩) (by rfl) (by simp[ig]) (World.news_of_block (cs:=#[.int .i64 (r:Int),.int .i64 (a:Int),.int .i64 0,.int .i64 (dp:Int)]) (t:=61) (fr:=(0,0)) (heap_alloc_new w _)) (by simp[ig,Value.oneCell']) (by simp[maxLen];omega) (by omega) (by simp;omega) ?_;intro gg cap w9 bW hgrow dA bj;have sf:=ku w9 _ hgrow;obtain⟨q3,q0,qf,qg,qr⟩:=jr w9 sf)
 obtain⟨QY,KZ⟩:∃x,x=Value.slice (some ⟨gg,0,none⟩) (L.length+1) cap:=⟨_,rfl⟩
 obtain⟨w2,gQ⟩:∃x,x=w9.setCell ⟨R.fb,3,none⟩ (.slice (some ⟨gg,0,none⟩) (L.length+1) cap):=⟨_,rfl⟩
 rw[<-gQ]
 have hF9:rW w9 R.fb R.gb R.s R.cb R.N (.slice p0 L.length oV):=⟨sf.blk HS.out.fld.at_ UY⟩
 have sG:rW w2 R.fb R.gb R.s R.cb R.N QY:=by rw[gQ,KZ];exact NZ hF9 _
 have Zh:aa (fun k=>k=R.fb) w9 w2:=by rw[gQ];exact(aa.refl (fun k=>k=R.fb) w9).setCell (p:=⟨R.fb,3,none⟩) (fun _=>rfl) _
 have PS:aa (fun k=>k=R.cb\/k=R.fb\/(Value.slice p0 L.length oV).ownBlock=some k) w w2:=(sf.mono (fun _ _ x=>Or.inr (Or.inr x))).trans (Zh.mono (fun _ _ x=>Or.inr (Or.inl x)))
 have VR:aa (fun k=>k=R.fb\/(Value.slice p0 L.length oV).ownBlock=some k) w w2:=(sf.mono (fun _ _ x=>Or.inr x)).trans (Zh.mono (fun _ _ x=>Or.inl x))
 have kf:¬R.cb=R.fb:=fun e=>by
  have h1:w.heap[R.cb]?=_:=HS.out.cel
  have h2:w.heap[R.fb]?=_:=HS.out.fld.at_
  rw[e,h2]at h1;simp at h1
 have gA:m7 R w2 c QY:=HS.out.put VR (fun x=>by rcases x with x | x;exact kf x;exact htc x) (fun k x hk=>by
  rcases x with x | x
  ·exact⟨_,126,(by rw[x];exact HS.out.fld.at_),.inr (.inr (.inl rfl))⟩
  ·obtain⟨y,hy⟩:=ak HT.out.own x
   exact⟨y,61,hy,.inr (.inr (.inr rfl))⟩) sG
 have hgf:¬QY.ownBlock=some R.fb:=oq (by rw[KZ];exact bW) (show ai w9 R.fb=_ from hF9.at_) (by decide)
 have Qs:w2.ownsRow base 61 4 QY (L++[(⟨r,a,0,dp⟩:iN)]).length ((L++[(⟨r,a,0,dp⟩:iN)]).flatMap ig):=by
  rw[List.length_append,List.length_singleton,List.flatMap_append]
  have h1:=az (show w9.ownsRow base 61 4 QY (L.length+1) (L.flatMap ig++ig ⟨r,a,0,dp⟩) by rw[KZ];exact bW) Zh (fun k e x=>hgf (by rw[e,x]))
  simpa using h1
 have kd:Gt R base QY (L++[(⟨r,a,0,dp⟩:iN)]) w2:=⟨⟨c,gA⟩,Qs,by have:=PS.size;omega⟩
 have bO:=hG isn a (dp+1) p t base QY (L++[(⟨r,a,0,dp⟩:iN)]) w2 ro ha (by rw[HIS.out];exact HM.out) vI.out kd (by rw[List.length_append,List.length_singleton];unfold kA;omega) (by rw[List.length_append,List.length_singleton];omega)
 rw[show ((dp+1:Nat):Int)=(dp:Int)+1 from rfl]at bO
 have HC:=ae bO
 have Re:=ae PS
 have Z5:Hid (∀k,QY.ownBlock=some k->k<w.heap.size->(Value.slice p0 L.length oV).ownBlock=some k):=fun k e hk=>by
  rw[KZ]at e
  have e':gg=k:=Option.some.inj e
  rcases dA with h1 | h1
  ·rw[h1,e']
  ·have h2:gg=w.heap.size+1:=by rw[h1];simp
   omega
 have HW2:Hid (w.heap.size<=w2.heap.size):=PS.size
 clear bO PS VR Zh gQ hF9 sG bW hgrow dA bj sf q3 q0 qf qg qr jr ku gA Qs kd hgf KZ
 refine HC.out.mono ?_
 intro e w3 hO
 have he:=hO.res
 subst he
 obtain⟨tv3,N6,dY⟩:=hO.st
 obtain⟨c3,sK⟩:=N6.st
 obtain⟨n3,UV⟩:∃n,n=(L++[(⟨r,a,0,dp⟩:iN)]++p.tr.map nI).length:=⟨_,rfl⟩
 have xr:=N6.own
 rw[<-UV]at xr
 have XQ:n3=L.length+1+p.tr.length:=by rw[UV];simp;omega
 obtain⟨g3,qaj,ZR,_,qcI⟩:=xr.form (by omega)
 subst ZR
 obtain⟨z0,z1,z2,z3⟩:=di sK.fld.at_
 have Ox:L.length<n3:=by omega
 have qce:(L.length:Int)<(n3:Int):=by omega
 have qc0:n3<=6904678719961:=by omega
 obtain⟨y3,Ys⟩:=ak xr (k:=g3) rfl
 have W6:∃u,w3.cell? ⟨g3,L.length*4+2,none⟩=some u:=by
  have h1:=xr.cellAt (L.length*4+2) (by omega)
  have h2:L.length*4+2<((L++[(⟨r,a,0,dp⟩:iN)]++p.tr.map nI).flatMap ig).length:=by rw[uQ,<-UV];omega
  rw[List.getElem?_eq_getElem h2]at h1
  exact⟨_,h1⟩
 obtain⟨u3,hu3⟩:=W6
 have qcG:w3.frozen? ⟨g3,L.length*4+2,none⟩=false:=bh Ys
 have HN3:=ae UV
 have HO:=ae hO
 have VL:=ae N6
 have Ro:=ae sK
 have VC:=ae xr
 have HY3:=ae Ys
 have HB3:=ae dY
 have qae:=ae XQ
 clear hO N6 sK UV xr Ys HC dY XQ
 go_wp2
 go_ret
 have vu:aa (fun k=>k=g3) w3 (w3.setCell ⟨g3,L.length*4+2,none⟩ (.int .i64 (t:Int))):=(aa.refl (fun k=>k=g3) w3).setCell (p:=⟨g3,L.length*4+2,none⟩) (fun _=>rfl) _
 have e9:(L++[(⟨r,a,0,dp⟩:iN)]++p.tr.map nI:List iN)=L++⟨r,a,0,dp⟩ :: p.tr.map nI:=by simp
 refine⟨rfl,⟨.slice (some ⟨g3,0,none⟩) n3 qaj,⟨⟨c3,Ro.out.kept vu (fun e=>?_) (fun e=>?_) (fun k x _=>⟨y3,61,(by have x':k=g3:=x;rw[x'];exact HY3.out),.inr (.inr (.inr rfl))⟩)⟩,?_,?_⟩,fun k e hk=>?_⟩,?_⟩
 ·have e':R.fb=g3:=e
  have h1:w3.heap[R.fb]?=_:=Ro.out.fld.at_
  rw[e',show w3.heap[g3]?=_ from HY3.out]at h1;simp at h1
 ·have e':R.cb=g3:=e
  have h1:w3.heap[R.cb]?=_:=Ro.out.cel
  rw[e',show w3.heap[g3]?=_ from HY3.out]at h1;simp at h1
 ·have h1:=Bu VC.out (L.length*4+2) (.int .i64 (t:Int)) (by omega)
  rw[e9,O7 L (p.tr.map nI) r a dp 0 t]at h1
  have h2:(L++⟨r,a,(t:Int),dp⟩ :: p.tr.map nI:List iN).length=n3:=by rw[qae.out];simp;omega
  rw[h2]
  exact h1
 ·have:=VL.out.le
  have:=vu.size
  omega
 ·exact Z5.out k (HB3.out k e (by have:=HW2.out;omega)) hk
 ·refine(Re.out.then HO.out.kept (fun k hk x=>?_)).then vu (fun k hk x=>?_)
  ·rcases x with x | x | x
   ·exact .inl x
   ·exact .inr (.inl x)
   ·exact .inr (.inr (Z5.out k x hk))
  ·have x':k=g3:=x
   exact .inr (.inr (Z5.out k (HB3.out k (by rw[x'];rfl) (by have:=HW2.out;omega)) hk))
structure Gs (R:Rc)(base:Nat)(w0:World)(tv0:Value)(L:List iN)(kb tb:Nat)(nc:Array Value)(wz:World):Prop where
 ex:∃tv,Gt R base tv L wz/\(∀k,tv.ownBlock=some k->k<w0.heap.size->tv0.ownBlock=some k)
 trc:∃far rn,cz wz tb far rn/\rn<=cJ/\-1<=far.1
 nod:ai wz kb=some (.cells nc 179 (0,0))
 kept:aa (fun k=>k=R.cb\/k=R.fb\/tv0.ownBlock=some k) w0 wz
 new:w0.heap.size<=tb
theorem Gt.same {R:Rc}{base:Nat}{tv:Value}{L:List iN}{w w':World}(h:Gt R base tv L w)(K:aa (fun _=>False) w w'):Gt R base tv L w':=by
 obtain⟨c,hS⟩:=h.st
 exact⟨⟨c,hS.same K⟩,az h.own K (fun _ _ x=>x),by have:=h.le;have:=K.size;omega⟩
theorem Gs.start {R:Rc}{base:Nat}{w:World}{tv:Value}{L:List iN}{nc:Array Value}(h:Gt R base tv L w):Gs R base w tv L w.heap.size (w.heap.size+1) nc ((w.alloc (.cells nc 179)).alloc (.cells (vj (0,0) 0) 185)):=by
 have K:aa (fun _=>False) w ((w.alloc (.cells nc 179)).alloc (.cells (vj (0,0) 0) 185)):=((aa.refl _ w).alloc _).alloc _
 refine⟨⟨tv,h.same K,fun _ e _=>e⟩,⟨(0,0),0,?_,Nat.zero_le _,by decide⟩,?_,K.mono (fun _ _ x=>x.elim),by omega⟩
 ·unfold cz
  have:=heap_alloc_new (w.alloc (.cells nc 179)) (.cells (vj (0,0) 0) 185)
  simpa using this
 ·exact(aN _ _ (by simp)).trans (au w _)
theorem Gs.mat {R:Rc}{base:Nat}{w0 wz w1:World}{tv0 tv:Value}{L:List iN}{kb tb a:Nat}{nc:Array Value}{far:Int × Nat}{rn:Nat}{o:Ot}{c:Nat->Option Cl}{e:Ending}(h:Gs R base w0 tv0 L kb tb nc wz)(hT:Gt R base tv L wz)(hb:∀k,tv.ownBlock=some k->k<w0.heap.size->tv0.ownBlock=some k)(ht:cz wz tb far rn)(hf:-1<=far.1)(hO:fu R c tv o a tb far rn wz e w1):Gs R base w0 tv0 L kb tb nc w1:=by
 obtain⟨c0,rd⟩:=hT.st
 refine⟨⟨tv,⟨hO.st,az hT.own hO.kept (fun k e x=>?_),by have:=hT.le;have:=hO.kept.size;omega⟩,hb⟩,⟨_,_,hO.trc,Nat.min_le_left _ _,yr hf⟩,bI h.nod hO.kept (fun x=>?_),h.kept.then hO.kept (fun k hk x=>?_),h.new⟩
 ·rcases x with x | x
  ·exact oq hT.own (show ai wz tb=_ from ht) (by decide) (by rw[e,x])
  ·exact oq hT.own (show ai wz R.cb=_ from rd.cel) (by decide) (by rw[e,x])
 ·rcases x with x | x
  ·exact oU h.nod ht (by decide) x
  ·exact qR h.nod rd.cel (by decide) x
 ·rcases x with x | x
  ·have:=h.new;omega
  ·exact .inl x
theorem Gs.gro {R:Rc}{base:Nat}{w0 wz w1:World}{tv0 tv:Value}{L L':List iN}{kb tb t:Nat}{nc:Array Value}{e:Ending}(h:Gs R base w0 tv0 L kb tb nc wz)(hT:Gt R base tv L wz)(hb:∀k,tv.ownBlock=some k->k<w0.heap.size->tv0.ownBlock=some k)(hO:vH R base tv L' t wz e w1):Gs R base w0 tv0 L' kb tb nc w1:=by
 obtain⟨c0,rd⟩:=hT.st
 obtain⟨zu,h1,h2⟩:=hO.st
 obtain⟨far,rn,ht,hr,hf⟩:=h.trc
 have gh:=h.kept.size
 refine⟨⟨zu,h1,fun k e hk=>hb k (h2 k e (by omega)) hk⟩,⟨far,rn,hO.kept.blk ht (fun x=>?_),hr,hf⟩,bI h.nod hO.kept (fun x=>?_),h.kept.then hO.kept (fun k hk x=>?_),h.new⟩
 ·rcases x with x | x | x
  ·exact oU (show ai wz R.cb=_ from rd.cel) ht (by decide) x.symm
  ·exact oU (show ai wz R.fb=_ from rd.fld.at_) ht (by decide) x.symm
  ·exact oq hT.own (show ai wz tb=_ from ht) (by decide) x
 ·rcases x with x | x | x
  ·exact qR h.nod rd.cel (by decide) x
  ·have h5:wz.heap[R.fb]?=_:=rd.fld.at_
   rw[<-x,show wz.heap[kb]?=_ from h.nod]at h5
   simp at h5
  ·exact oq hT.own h.nod (by decide) x
 ·rcases x with x | x | x
  ·exact .inl x
  ·exact .inr (.inl x)
  ·exact .inr (.inr (hb k x hk))
theorem Gs.fin {R:Rc}{base:Nat}{w0 wz:World}{tv0:Value}{L':List iN}{kb tb t:Nat}{nc:Array Value}(h:Gs R base w0 tv0 L' kb tb nc wz):vH R base tv0 L' t w0 (.returned (.int .i64 (t:Int))) wz:=⟨rfl,h.ex,h.kept⟩
theorem Gs.subs {R:Rc}{base:Nat}{w0 wz:World}{tv0:Value}{L L0:List iN}{kb tb b3:Nat}{nc:Array Value}{v:Value}{l:List Nat}(h:Gs R base w0 tv0 L kb tb nc wz)(hT0:Gt R base tv0 L0 w0)(c9:w0.ownsRow b3 3 1 v l.length (l.map ee)):wz.ownsRow b3 3 1 v l.length (l.map ee):=by
 obtain⟨c0,rd⟩:=hT0.st
 refine az c9 h.kept (fun m e x=>?_)
 obtain⟨y,hy⟩:=ak c9 e
 rcases x with x | x | x
 ·exact qR hy rd.cel (by decide) x
 ·have h5:w0.heap[R.fb]?=_:=rd.fld.at_
  rw[<-x,show w0.heap[m]?=_ from hy]at h5
  simp at h5
 ·exact oq hT0.own hy (by decide) x
theorem JN {R:Rc}{f:Nat}(hR:If R){i a dp t base:Nat}{o:Ot}{tv:Value}{L:List iN}{w:World}(hi:i<R.ns.length)(ha:a<=R.s.size)(co:(ap R.ns i).kind=0\/(ap R.ns i).kind=1\/(ap R.ns i).kind=2)(hm:bR (am R.s) R.s.size R.rs R.ns f i a dp=some o)(eQ:o.to=some t)(E1:o.tr=[])(hT:Gt R base tv L w):
  Calls Tryz.prog 90 #[.pointer (some ⟨R.fb,0,none⟩),.int .i64 (i:Int),.int .i64 (a:Int),.int .i64 (dp:Int)] w fun e w'=>vH R base tv (L++o.tr.map nI) t w e w':=by
 rw[E1,List.map_nil,List.append_nil]
 obtain⟨c,hS⟩:=hT.st
 obtain⟨f0,f1,f2,f3⟩:=di hS.fld.at_
 have mz:=av f0
 have eM:i<(aq R.G).1.ns.length:=hi
 obtain⟨g,iH,nc,v,gz,iR,yJ,gh,qz,NI,c9,dV⟩:=hS.rdy.rg.nodes.get eM
 obtain⟨g0,g1,gx⟩:=hS.rdy.rg.gis.cells
 rw[iR]at g0
 have dm:((w.alloc (.cells df 179)).setRow w.heap.size nc)=w.alloc (.cells nc 179):=World.setRow_alloc_new w df nc 179
 have ho:=cM NI.one
 have lE:Sz nc:=NI.size
 have hz:Sz df:=cy
 have gC:∀j,(w.alloc (.cells nc 179)).cell? ⟨w.heap.size,j,none⟩=nc[j]?:=fun j=>al (au w _)
 have wh:∀j o,((w.alloc (.cells nc 179)).alloc o).cell? ⟨w.heap.size,j,none⟩=nc[j]?:=fun j o=>al ((aN _ _ (by simp)).trans (au w _))
 have jo:ap R.ns i=(aq R.G).1.ns[i]:=bA hi
 have xY:=ae (Gs.start (nc:=nc) hT)
 have zL:=hR.n5
 have sT:=hR.s
 rw[jo]at co
 have eZ:=NI.kind
 unfold ee at eZ
 obtain⟨K,hK⟩:∃K,K=((aq R.G).1.ns[i]).kind:=⟨_,rfl⟩
 rw[<-hK]at eZ co
 obtain⟨zu,sM,dE⟩:=xY.out.ex
 obtain⟨far,rn,ju,oh,pA⟩:=xY.out.trc
 obtain⟨c1,iL⟩:=sM.st
 have bO:=fM hR f i a dp o (w.heap.size+1) far rn c1 zu _ hi ha hm iL ju oh pA
 have HC:=ae bO
 have HN:Hid (∀e w',fu R c1 zu o a (w.heap.size+1) far rn ((w.alloc (.cells nc 179)).alloc (.cells (vj (0,0) 0) 185)) e w'->Gs R base w tv L w.heap.size (w.heap.size+1) nc w'):=fun e w' hO=>xY.out.mat sM dE ju pA hO
 have vI:=ae eQ
 clear bO c9 dV gx jo NI hK hm hS hT sM dE ju oh pA iL eQ
 rcases co with co | co | co
 all_goals
  subst co
  go_enter Tryz.func90,Tryz.ntmps90
  go_wp2_with fail
  refine HC.out.mono ?_
  intro e w7 hO
  have he:=hO.res
  rw[vI.out]at he
  subst he
  have HG7:=ae (HN.out _ _ hO)
  clear hO
  go_wp2
  go_ret
  exact HG7.out.fin
theorem JI {R:Rc}(hR:If R){i a dp base:Nat}{tv:Value}{L:List iN}{w:World}(hi:i<R.ns.length)(ha:a<=R.s.size)(co:(ap R.ns i).kind=9\/(ap R.ns i).kind=10)(hT:Gt R base tv L w):
  Calls Tryz.prog 90 #[.pointer (some ⟨R.fb,0,none⟩),.int .i64 (i:Int),.int .i64 (a:Int),.int .i64 (dp:Int)] w fun e w'=>vH R base tv L a w e w':=by
 obtain⟨c,hS⟩:=hT.st
 obtain⟨f0,f1,f2,f3⟩:=di hS.fld.at_
 have mz:=av f0
 have eM:i<(aq R.G).1.ns.length:=hi
 obtain⟨g,iH,nc,v,gz,iR,yJ,gh,qz,NI,c9,dV⟩:=hS.rdy.rg.nodes.get eM
 obtain⟨g0,g1,gx⟩:=hS.rdy.rg.gis.cells
 rw[iR]at g0
 have dm:((w.alloc (.cells df 179)).setRow w.heap.size nc)=w.alloc (.cells nc 179):=World.setRow_alloc_new w df nc 179
 have ho:=cM NI.one
 have lE:Sz nc:=NI.size
 have hz:Sz df:=cy
 have gC:∀j,(w.alloc (.cells nc 179)).cell? ⟨w.heap.size,j,none⟩=nc[j]?:=fun j=>al (au w _)
 have wh:∀j o,((w.alloc (.cells nc 179)).alloc o).cell? ⟨w.heap.size,j,none⟩=nc[j]?:=fun j o=>al ((aN _ _ (by simp)).trans (au w _))
 have jo:ap R.ns i=(aq R.G).1.ns[i]:=bA hi
 have xY:=ae (Gs.start (nc:=nc) hT)
 have zL:=hR.n5
 have sT:=hR.s
 rw[jo]at co
 have eZ:=NI.kind
 unfold ee at eZ
 obtain⟨K,hK⟩:∃K,K=((aq R.G).1.ns[i]).kind:=⟨_,rfl⟩
 rw[<-hK]at eZ co
 clear c9 dV gx jo NI hK hS hT
 rcases co with co | co
 all_goals
  subst co
  go_enter Tryz.func90,Tryz.ntmps90
  go_wp2
  go_ret
  exact xY.out.fin
theorem JL {R:Rc}{f:Nat}(hR:If R)(hG:tJ R f){i a dp t base r:Nat}{p:Ot}{tv:Value}{L:List iN}{w:World}(hi:i<R.ns.length)(ha:a<=R.s.size)(co:(ap R.ns i).kind=3)(xn:dg R.rs (ap R.ns i).name=some r)(hm:bR (am R.s) R.s.size R.rs R.ns f (cL R.rs r) a (dp+1)=some p)(eQ:p.to=some t)(hT:Gt R base tv L w)(hl:L.length+(p.tr.length+1)<=kA)(hdp:dp<=L.length):
  Calls Tryz.prog 90 #[.pointer (some ⟨R.fb,0,none⟩),.int .i64 (i:Int),.int .i64 (a:Int),.int .i64 (dp:Int)] w fun e w'=>vH R base tv (L++⟨r,a,(t:Int),dp⟩ :: p.tr.map nI) t w e w':=by
 obtain⟨c,hS⟩:=hT.st
 obtain⟨f0,f1,f2,f3⟩:=di hS.fld.at_
 have mz:=av f0
 have eM:i<(aq R.G).1.ns.length:=hi
 obtain⟨g,iH,nc,v,gz,iR,yJ,gh,qz,NI,c9,dV⟩:=hS.rdy.rg.nodes.get eM
 obtain⟨g0,g1,gx⟩:=hS.rdy.rg.gis.cells
 rw[iR]at g0
 have dm:((w.alloc (.cells df 179)).setRow w.heap.size nc)=w.alloc (.cells nc 179):=World.setRow_alloc_new w df nc 179
 have ho:=cM NI.one
 have lE:Sz nc:=NI.size
 have hz:Sz df:=cy
 have gC:∀j,(w.alloc (.cells nc 179)).cell? ⟨w.heap.size,j,none⟩=nc[j]?:=fun j=>al (au w _)
 have wh:∀j o,((w.alloc (.cells nc 179)).alloc o).cell? ⟨w.heap.size,j,none⟩=nc[j]?:=fun j o=>al ((aN _ _ (by simp)).trans (au w _))
 have jo:ap R.ns i=(aq R.G).1.ns[i]:=bA hi
 have xY:=ae (Gs.start (nc:=nc) hT)
 have zL:=hR.n5
 have sT:=hR.s
 have hr:r<R.rs.length:=kY xn
 rw[jo]at co xn
 have eZ:=NI.kind
 have k4:=NI.name
 unfold ee at eZ
 rw[co]at eZ
 obtain⟨ND,oa⟩:∃X,X=(aq R.G).1.ns[i]:=⟨_,rfl⟩
 rw[<-oa]at k4 xn
 have M9:j9 R.rs ND.name=(r:Int):=by unfold j9;rw[xn]
 have KP:=hR.r8
 have qbv:r<=8:=by omega
 unfold kA at hl
 have fT:∀X,aa (fun _=>False) w X->Calls Tryz.prog 86 #[.pointer (some ⟨R.gb,0,none⟩),.string (ba ND.name)] X fun e w'=>e=.returned (.int .i64 (r:Int))/\w'=X:=fun X hX=>by
  rw[<-M9]
  exact g9 R.gb R.G R.base R.nv R.rv _ _ ND.name X (hS.same hX).rdy.rg.gis (hS.same hX).rdy.ru KP
 have EW:∀X,aa (fun _=>False) w X->Calls Tryz.prog 59 #[.pointer (some ⟨R.fb,0,none⟩),.int .i64 (r:Int),.int .i64 (a:Int),.int .i64 (dp:Int)] X fun e w'=>vH R base tv (L++⟨r,a,(t:Int),dp⟩ :: p.tr.map nI) t X e w':=fun X hX=>sv hR hG hr ha hm eQ (hT.same hX) hl hdp
 have Un:=ae fT
 have PO:=ae EW
 have HKA:Hid (∀o,aa (fun _=>False) w ((w.alloc (.cells nc 179)).alloc o).drew):=fun o=>(((aa.refl _ w).alloc _).alloc _).drew
 have HKM:Hid (∀X w' e,aa (fun _=>False) w X->vH R base tv (L++⟨r,a,(t:Int),dp⟩ :: p.tr.map nI) t X e w'->vH R base tv (L++⟨r,a,(t:Int),dp⟩ :: p.tr.map nI) t w e w'):=fun X w' e hX hO=>hO.more (hX.mono (fun _ _ x=>x.elim)) (fun _ e _=>e)
 clear c9 dV gx jo NI oa hm hS hT fT EW xn M9 eQ co hl xY
 go_enter Tryz.func90,Tryz.ntmps90
 go_wp2_with fail
 go_region_with (first
  | (go_at_call 86;refine(Un.out _ ?_).mono ?_;exact HKA.out _;rintro e w7 ⟨rfl,rfl⟩)
  | (go_at_call 59;refine(PO.out _ ?_).mono ?_;exact HKA.out _;intro e w8 hO;have he:=hO.res;subst he))
 all_goals
  have HO:=ae hO
  clear hO
  go_wp2
  go_ret
  exact HKM.out _ _ _ (HKA.out _) HO.out
end Go.Proofs.YtagklnaaoclmhaaGreatDoor
