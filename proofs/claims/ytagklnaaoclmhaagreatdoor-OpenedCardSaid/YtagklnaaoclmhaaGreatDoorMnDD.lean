import Derived.Test.YtagklnaaoclmhaaGreatDoorMnDB
set_option linter.unusedSimpArgs false
set_option linter.unusedVariables false
set_option maxRecDepth 100000
set_option maxHeartbeats 16000000
namespace Go.Proofs.YtagklnaaoclmhaaGreatDoor
open Go.RowKit
attribute [local go_sem ↓] bw aX aZ aY aF bU bB bF bD cC bT bV cg bN
attribute [local go_sem] bc aQ aS bY bv aT aU aV aW aD bG bp bu bi bX bJ bK bx cA b9 cd bf aK au aN
theorem BL {step:Nat->Nat->Option Ot}{j a:Nat}{l:List Nat}{p:Ot}(h:iE step (j :: l) a=some p):∃oj,step j a=some oj/\((oj.to=none/\p.to=none/\p.ev=oj.ev/\p.rn=oj.rn)\/(∃t,oj.to=some t/\∃p2,iE step l t=some p2/\p=⟨p2.to,oj.ev++p2.ev,oj.rn+p2.rn,if p2.to.isSome then oj.tr++p2.tr else []⟩)):=by
 rw[iE]at h
 cases hx:step j a with
 | none=>rw[hx]at h;cases h
 | some oj=>
  refine⟨oj,rfl,?_⟩
  rw[hx]at h
  simp only at h
  cases eQ:oj.to with
  | none=>
   rw[eQ]at h
   have h':=Option.some.inj h
   subst h'
   exact .inl ⟨rfl,rfl,rfl,rfl⟩
  | some t=>
   rw[eQ]at h
   simp only at h
   cases hl:iE step l t with
   | none=>rw[hl]at h;cases h
   | some p2=>
    rw[hl]at h
    simp only[Option.map_some,Option.some.injEq]at h
    exact .inr ⟨t,rfl,p2,hl,h.symm⟩
theorem G5 {R:Rc}{f:Nat}(hM:mf R f)(hs:R.s.size<=60)(zL:R.ns.length<=5000)(ew:∀i,i<R.ns.length->∀j∈(ap R.ns i).subs,j<R.ns.length)(dA:∀i a dp o t,i<R.ns.length->a<=R.s.size->bR (am R.s) R.s.size R.rs R.ns f i a dp=some o->o.to=some t->t<=R.s.size){i a dp tb:Nat}{o:Ot}{far:Int × Nat}{rn:Nat}{c:Nat->Option Cl}{tv:Value}{w:World}(hi:i<R.ns.length)(ha:a<=R.s.size)(co:(ap R.ns i).kind=5)(hm:iE (fun j a=>bR (am R.s) R.s.size R.rs R.ns f j a dp) (ap R.ns i).subs a=some o)(hS:m7 R w c tv)(ht:cz w tb far rn)(gW:rn<=cJ)(hf:-1<=far.1):
  Calls Tryz.prog 89 #[.pointer (some ⟨R.fb,0,none⟩),.int .i64 (i:Int),.int .i64 (a:Int),.pointer (some ⟨tb,0,none⟩)] w fun e w'=>fu R c tv o a tb far rn w e w':=by
 obtain⟨f0,f1,f2,f3⟩:=di hS.fld.at_
 have mz:=av f0
 have eM:i<(aq R.G).1.ns.length:=hi
 obtain⟨g,iH,nc,v,gz,iR,yJ,gh,qz,NI,c9,dV⟩:=hS.rdy.rg.nodes.get eM
 obtain⟨g0,g1,gx⟩:=hS.rdy.rg.gis.cells
 rw[iR]at g0
 have dm:((w.alloc (.cells df 179)).setRow w.heap.size nc)=w.alloc (.cells nc 179):=World.setRow_alloc_new w df nc 179
 have ho:=cM NI.one
 have lE:Sz nc:=NI.size
 have hz:Sz df:=cy
 have gC:∀j,(w.alloc (.cells nc 179)).cell? ⟨w.heap.size,j,none⟩=nc[j]?:=fun j=>al (au w _)
 have jo:ap R.ns i=(aq R.G).1.ns[i]:=bA hi
 have yH:=ew i hi
 rw[jo]at co hm yH
 have eZ:=NI.kind
 have k6:=NI.subs
 obtain⟨ND,oa⟩:∃X,X=(aq R.G).1.ns[i]:=⟨_,rfl⟩
 rw[<-oa]at co eZ hm yH c9
 have qA:tb<w.heap.size:=ag (show ai w tb=_ from ht)
 have K1:aa (fun _=>False) w (w.alloc (.cells nc 179)):=(aa.refl _ w).alloc _
 unfold ee at eZ
 rw[co]at eZ
 obtain⟨kb,dx⟩:∃kb,kb=w.heap.size:=⟨_,rfl⟩
 have qv:ai (w.alloc (.cells nc 179)) kb=some (.cells nc 179 (0,0)):=(by rw[dx];exact au _ _)
 have Ny:Hid (Ml R tv (w.alloc (.cells nc 179)) kb nc tb far rn (w.alloc (.cells nc 179))):=⟨⟨c,hS.same K1⟩,K1.blk ht (fun x=>x),gW,hf,aa.refl _ _,qv⟩
 have Dm:=az c9 K1 (fun _ _ x=>x)
 have PP:=ae (hS.same K1)
 have Rp:Hid (cz (w.alloc (.cells nc 179)) tb far rn):=K1.blk ht (fun x=>x)
 have jE:=ae K1
 have HM:=ae hm
 have ws:=dG c9
 obtain⟨p0,oV,jH⟩:=an c9
 have vV:=fF yH
 have R5:Hid (∀q,q<ND.subs.length->ND.subs.getD q 0<R.ns.length):=vV
 clear hm c9 dV gx jo oa vV yH
 go_enter Tryz.func89,Tryz.ntmps89
 go_wp2_with fail
 rw[<-dx]
 generalize oi:(w.alloc (.cells nc 179))=w0 at *
 have PR:=ae dx
 clear dx dm gC oi hS ht K1
 go_loopg [15,16] ND.subs.length (fun gn v15 v16 wz=>∃(q t:Nat) (gc:Int × Nat) (p8:Nat) (p:Ot),q<=ND.subs.length/\gn=ND.subs.length-q/\t<=R.s.size/\v15=.int .i64 t/\v16=.int .i64 q/\Hid (Ml R tv w0 kb nc tb gc p8 wz)/\Hid (iE (fun j a=>bR (am R.s) R.s.size R.rs R.ns f j a dp) (ND.subs.drop q) t=some p/\p.to=o.to/\Cv far rn o gc p8 p.ev p.rn))
 case atStart=>exact⟨0,a,far,rn,o,by omega,rfl,ha,rfl,rfl,Ny,HM.out,rfl,Cv.same⟩
 case round=>
  obtain⟨q,t,gc,p8,p,hq,iI,yP,rfl,rfl,HL,HP⟩:=hrel
  have lR:=ae iI
  clear iI
  obtain⟨c1,iL⟩:=HL.out.st
  have cU:wr.cell? ⟨kb,261,none⟩=some v:=by rw[al HL.out.nod];exact k6
  have et:=HL.out.subs Rp.out PP.out Dm
  by_cases hqlt:q<ND.subs.length
  ·obtain⟨sb,iK,hv,kj⟩:=cD et hqlt
   rw[hv]at cU
   obtain⟨h1,h2,h3⟩:=HP.out
   rw[fH hqlt]at h1
   obtain⟨oj,vD,rq⟩:=BL h1
   have hj:=R5.out q hqlt
   have bO:=hM (ND.subs.getD q 0) t dp oj tb gc p8 c1 tv wr hj yP vD iL HL.out.trc HL.out.rn HL.out.fa
   have N8:=dA (ND.subs.getD q 0) t dp oj
   have Ra:Hid (∀u,oj.to=some u->u<=R.s.size):=fun u hu=>N8 u hj yP vD hu
   have xZ:=ae rq
   generalize ND.subs.getD q 0=j at *
   have H2:=ae h2
   have H3:=ae h3
   have HC:=ae bO
   have mG:(q:Int)<(ND.subs.length:Int):=by omega
   have AG:j<=5000:=by omega
   clear h1 vD rq bO HP et iL h2 h3 hv jH N8
   go_wp2_with fail
   refine HC.out.mono ?_
   intro e w7 hO
   have he:=hO.res
   subst he
   have iM:=ae (HL.out.next hO)
   rcases xZ.out with⟨ht,hp,hpe,Iz⟩ | ⟨u,hu,p2,lO,rfl⟩
   ·rw[ht]
    simp only[Option.getD_none,Option.isSome_none]
    have HP1:=ae hp
    have VD:=ae hpe
    have Za:=ae Iz
    clear ht xZ HC hO hp hpe Iz
    go_wp2
    go_ret2
    obtain⟨c7,jN⟩:=iM.out.st
    obtain⟨e1,e2⟩:=H3.out.lastE
    rw[VD.out]at e1
    rw[Za.out]at e2
    exact lj jN iM.out.trc ((jE.out.mono (fun _ _ x=>x.elim)).trans iM.out.kept) e1 e2 (by rw[<-H2.out,HP1.out];rfl)
   ·have GN:=Ra.out u hu
    rw[hu]
    simp only[Option.getD_some,Option.isSome_some]
    have nW:=ae lO
    clear hu lO xZ HC hO Ra
    go_wp2
    go_roundg (ND.subs.length-(q+1))
    case measure=>have:=lR.out;omega
    case rel=>exact⟨q+1,u,_,_,p2,by omega,rfl,GN,rfl,by go_num,iM.out,nW.out,H2.out,H3.out.step⟩
  ·obtain⟨h1,h2,h3⟩:=HP.out
   rw[List.drop_of_length_le (by omega),iE]at h1
   have N0:=Option.some.inj h1
   subst N0
   rw[jH]at cU
   have H2:=ae h2
   have H3:=ae h3
   clear h1 h2 h3 HP jH et
   go_wp2
   go_ret2
   obtain⟨e1,e2⟩:=H3.out.last HL.out.fa HL.out.rn
   exact lj iL HL.out.trc ((jE.out.mono (fun _ _ x=>x.elim)).trans HL.out.kept) e1 e2 (by rw[<-H2.out];rfl)
theorem GY {R:Rc}{f:Nat}(hM:mf R f)(hs:R.s.size<=60)(zL:R.ns.length<=5000){i a dp tb x:Nat}{p:Ot}{far:Int × Nat}{rn:Nat}{c:Nat->Option Cl}{tv:Value}{w:World}(hi:i<R.ns.length)(ha:a<=R.s.size)(co:(ap R.ns i).kind=9\/(ap R.ns i).kind=10)(hx:(ap R.ns i).subs=[x])(oL:x<R.ns.length)(hm:bR (am R.s) R.s.size R.rs R.ns f x a dp=some p)(hS:m7 R w c tv)(ht:cz w tb far rn)(gW:rn<=cJ)(hf:-1<=far.1):
  Calls Tryz.prog 89 #[.pointer (some ⟨R.fb,0,none⟩),.int .i64 (i:Int),.int .i64 (a:Int),.pointer (some ⟨tb,0,none⟩)] w fun e w'=>fu R c tv ⟨if p.to.isSome=decide ((ap R.ns i).kind=9) then some a else none,p.ev,p.rn,[]⟩ a tb far rn w e w':=by
 obtain⟨f0,f1,f2,f3⟩:=di hS.fld.at_
 have mz:=av f0
 have eM:i<(aq R.G).1.ns.length:=hi
 obtain⟨g,iH,nc,v,gz,iR,yJ,gh,qz,NI,c9,dV⟩:=hS.rdy.rg.nodes.get eM
 obtain⟨g0,g1,gx⟩:=hS.rdy.rg.gis.cells
 rw[iR]at g0
 have dm:((w.alloc (.cells df 179)).setRow w.heap.size nc)=w.alloc (.cells nc 179):=World.setRow_alloc_new w df nc 179
 have ho:=cM NI.one
 have lE:Sz nc:=NI.size
 have hz:Sz df:=cy
 have gC:∀j,(w.alloc (.cells nc 179)).cell? ⟨w.heap.size,j,none⟩=nc[j]?:=fun j=>al (au w _)
 have jo:ap R.ns i=(aq R.G).1.ns[i]:=bA hi
 obtain⟨o',KF⟩:∃o':Ot,o'=⟨if p.to.isSome=decide ((ap R.ns i).kind=9) then some a else none,p.ev,p.rn,[]⟩:=⟨_,rfl⟩
 rw[<-KF]
 have MS:=ae KF
 clear KF
 rw[jo]at co hx MS
 have eZ:=NI.kind
 have k6:=NI.subs
 obtain⟨ND,oa⟩:∃X,X=(aq R.G).1.ns[i]:=⟨_,rfl⟩
 rw[<-oa]at co eZ hx c9 MS
 have qA:tb<w.heap.size:=ag (show ai w tb=_ from ht)
 have K1:aa (fun _=>False) w (w.alloc (.cells nc 179)):=(aa.refl _ w).alloc _
 unfold ee at eZ
 obtain⟨kb,dx⟩:∃kb,kb=w.heap.size:=⟨_,rfl⟩
 have qv:ai (w.alloc (.cells nc 179)) kb=some (.cells nc 179 (0,0)):=(by rw[dx];exact au _ _)
 have Ny:Hid (Ml R tv (w.alloc (.cells nc 179)) kb nc tb far rn (w.alloc (.cells nc 179))):=⟨⟨c,hS.same K1⟩,K1.blk ht (fun x=>x),gW,hf,aa.refl _ _,qv⟩
 have bO:=hM x a dp p tb far rn c tv (w.alloc (.cells nc 179)) oL ha hm (hS.same K1) (K1.blk ht (fun x=>x)) gW hf
 obtain⟨sb,iK,hv,kj⟩:=cD (az c9 K1 (fun _ _ x=>x)) (k:=0) (by rw[hx];simp)
 rw[hx]at hv kj
 simp only[List.length_cons,List.length_nil,List.getD_cons_zero]at hv kj
 have qc9:sb<w.heap.size:=by
  have:=av kj
  have h2:=ak c9 (k:=sb) (by rw[hv];rfl)
  obtain⟨y,hy⟩:=h2
  exact ag hy
 rw[hv]at k6
 have jE:=ae K1
 have HC:=ae bO
 clear c9 dV gx jo oa hx hS ht K1 hm bO hv
 rcases co with co | co
 all_goals
  rw[co]at eZ MS
  clear co
  go_enter Tryz.func89,Tryz.ntmps89
  go_wp2_with fail
  refine HC.out.mono ?_
  intro e w7 hO
  have he:=hO.res
  subst he
  have iM:=ae (Ny.out.next hO)
  have Tn:w7.cell? ⟨w.heap.size,0,none⟩=nc[0]?:=by rw[<-dx,al iM.out.nod]
  rw[eZ]at Tn
  have PR:=ae dx
  have eO:∀(w8:World) (B:Bool),aa (fun _=>False) w7 w8->B=o'.to.isSome->fu R c tv o' a tb far rn w (.returned (.tuple #[.int .i64 (a:Int),.bool B])) w8:=by
   intro w8 B hw8 hB
   obtain⟨c7,jN⟩:=iM.out.st
   have e1:o'.ev=p.ev:=by rw[MS.out]
   have e2:o'.rn=p.rn:=by rw[MS.out]
   have e3:o'.to.getD a=a:=by
    rw[MS.out]
    show (if _ then some a else none:Option Nat).getD a=a
    split <;> rfl
   refine lj (jN.same hw8) (hw8.blk iM.out.trc (fun x=>x)) (((jE.out.mono (fun _ _ x=>x.elim)).trans iM.out.kept).trans (hw8.mono (fun _ _ x=>x.elim))) (by rw[e1]) (by rw[e2]) ?_
   rw[e3,hB]
  have HF:=ae eO
  clear eO
  generalize eQ:p.to.isSome=B at *
  have vI:=ae eQ
  clear eQ HC hO dx dm gC
  cases B
  all_goals
   go_wp2_with fail
   go_quiet (fail)
   go_wp2
   go_ret2
   exact HF.out _ _ ((aa.refl _ _).drewN _) (by rw[MS.out];first | (show _=(if _ then some a else none:Option Nat).isSome;rw[vI.out];rfl) | rfl)
def Rq (step:Nat->Option Ot)(kind n k t:Nat)(p:Ot):Prop:=
 (kind=8/\k=0/\∃g,n=g+1/\∃oj,step t=some oj/\((oj.to=none/\p.to=none/\p.ev=oj.ev/\p.rn=oj.rn)\/∃u,oj.to=some u/\∃p2,gy step g u=some p2/\p.to=p2.to/\p.ev=oj.ev++p2.ev/\p.rn=oj.rn+p2.rn)) ∨
 ((kind=7\/0<k)/\gy step n t=some p)
theorem Pk {step:Nat->Option Ot}{kind n k t:Nat}{p:Ot}(h:Rq step kind n k t p)(hk:kind=7\/kind=8):∃g,n=g+1/\∃oj,step t=some oj/\((oj.to=none/\p.to=(if kind=8/\k=0 then none else some t)/\p.ev=oj.ev/\p.rn=oj.rn)\/∃u,oj.to=some u/\∃p2,Rq step kind g (k+1) u p2/\p.to=p2.to/\p.ev=oj.ev++p2.ev/\p.rn=oj.rn+p2.rn):=by
 rcases h with⟨h8,h0,g,rfl,oj,h1,h2⟩ | ⟨Cj,h1⟩
 ·refine⟨g,rfl,oj,h1,?_⟩
  rcases h2 with⟨a,b,c,d⟩ | ⟨u,hu,p2,lO,a,b,c⟩
  ·exact .inl ⟨a,by rw[if_pos ⟨h8,h0⟩];exact b,c,d⟩
  ·exact .inr ⟨u,hu,p2,.inr ⟨.inr (by omega),lO⟩,a,b,c⟩
 ·cases n with
  | zero=>rw[gy]at h1;cases h1
  | succ g=>
   rw[gy]at h1
   cases hx:step t with
   | none=>rw[hx]at h1;cases h1
   | some oj=>
    rw[hx]at h1
    simp only at h1
    refine⟨g,rfl,oj,rfl,?_⟩
    cases eQ:oj.to with
    | none=>
     rw[eQ]at h1
     cases h1
     exact .inl ⟨rfl,by rw[if_neg (by omega)],rfl,rfl⟩
    | some u=>
     rw[eQ]at h1
     simp only at h1
     cases hl:gy step g u with
     | none=>rw[hl]at h1;cases h1
     | some p2=>
      rw[hl]at h1
      simp only[Option.map_some,Option.some.injEq]at h1
      subst h1
      exact .inr ⟨u,rfl,p2,.inr ⟨.inr (by omega),hl⟩,rfl,rfl,rfl⟩
theorem xU {R:Rc}{f:Nat}(hM:mf R f)(hs:R.s.size<=60)(zL:R.ns.length<=5000){nc:Array Value}{ND:Nd}{v:Value}{base a dp tb x n:Nat}{o:Ot}{far:Int × Nat}{rn:Nat}{c:Nat->Option Cl}{tv:Value}{w:World}(NI:aJ nc ND v)(c9:w.ownsRow base 3 1 v ND.subs.length (ND.subs.map ee))(ha:a<=R.s.size)(co:ND.kind=7\/ND.kind=8)(hx:ND.subs=[x])(oL:x<R.ns.length)
  (Iz:∀t oj u,t<=R.s.size->bR (am R.s) R.s.size R.rs R.ns f x t dp=some oj->oj.to=some u->t<u/\u<=R.s.size)
  (hm:Rq (fun a=>bR (am R.s) R.s.size R.rs R.ns f x a dp) ND.kind n 0 a o) (hS:m7 R w c tv) (ht:cz w tb far rn) (gW:rn<=cJ) (hf:-1<=far.1):
  Calls Tryz.prog 137 #[.pointer (some ⟨R.fb,0,none⟩),.agg nc,.int .i64 (a:Int),.pointer (some ⟨tb,0,none⟩)] w fun e w'=>fu R c tv o a tb far rn w e w':=by
 obtain⟨f0,f1,f2,f3⟩:=di hS.fld.at_
 have mz:=av f0
 have ho:=cM NI.one
 have lE:Sz nc:=NI.size
 have eZ:=NI.kind
 have k6:=NI.subs
 have qA:tb<w.heap.size:=ag (show ai w tb=_ from ht)
 have K1:aa (fun _=>False) w (w.alloc (.cells nc 179)):=(aa.refl _ w).alloc _
 unfold ee at eZ
 obtain⟨kb,dx⟩:∃kb,kb=w.heap.size:=⟨_,rfl⟩
 have qv:ai (w.alloc (.cells nc 179)) kb=some (.cells nc 179 (0,0)):=(by rw[dx];exact au _ _)
 have Ny:Hid (Ml R tv (w.alloc (.cells nc 179)) kb nc tb far rn (w.alloc (.cells nc 179))):=⟨⟨c,hS.same K1⟩,K1.blk ht (fun x=>x),gW,hf,aa.refl _ _,qv⟩
 have Dm:=az c9 K1 (fun _ _ x=>x)
 have PP:=ae (hS.same K1)
 have Rp:Hid (cz (w.alloc (.cells nc 179)) tb far rn):=K1.blk ht (fun x=>x)
 have jE:=ae K1
 have HM:=ae hm
 obtain⟨K,hK⟩:∃K,K=ND.kind:=⟨_,rfl⟩
 rw[<-hK]at co eZ HM
 have tK:=ae co
 have qcn:¬K=6:=by omega
 have q6:((K:Int) == 6)=false:=beq_eq_false_iff_ne.2 (by omega)
 have hKl:K<=10:=by omega
 have HX:=ae hx
 clear hm c9 hS ht K1 hK co hx
 go_enter Tryz.func137,Tryz.ntmps137
 go_wp2_with fail
 rw[<-dx]
 generalize oi:(w.alloc (.cells nc 179))=w0 at *
 have PR:=ae dx
 clear dx oi
 go_loopg [2,10] n (fun gn v2 v10 wz=>∃(k t:Nat) (gc:Int × Nat) (p8:Nat) (p:Ot),k<=t/\t<=R.s.size/\Hid (k=0->t=a)/\v2=.int .i64 t/\v10=.int .i64 k/\Hid (Ml R tv w0 kb nc tb gc p8 wz)/\Hid (Rq (fun a=>bR (am R.s) R.s.size R.rs R.ns f x a dp) K gn k t p/\p.to=o.to/\Cv far rn o gc p8 p.ev p.rn))
 case atStart=>exact⟨0,a,far,rn,o,Nat.zero_le _,ha,fun _=>rfl,rfl,rfl,Ny,HM.out,rfl,Cv.same⟩
 case round=>
  obtain⟨k,t,gc,p8,p,hkt,yP,Vx,rfl,rfl,HL,HP⟩:=hrel
  obtain⟨c1,iL⟩:=HL.out.st
  have cU:wr.cell? ⟨kb,261,none⟩=some v:=by rw[al HL.out.nod];exact k6
  have et:=HL.out.subs Rp.out PP.out Dm
  obtain⟨sb,iK,hv,kj⟩:=cD et (k:=0) (by rw[HX.out];simp)
  rw[HX.out]at hv kj
  simp only[List.length_cons,List.length_nil,List.getD_cons_zero]at hv kj
  rw[hv]at cU
  obtain⟨h1,h2,h3⟩:=HP.out
  obtain⟨g,hg,oj,vD,rq⟩:=Pk h1 tK.out
  have bO:=hM x t dp oj tb gc p8 c1 tv wr oL yP vD iL HL.out.trc HL.out.rn HL.out.fa
  have Za:Hid (∀u,oj.to=some u->t<u/\u<=R.s.size):=fun u hu=>Iz t oj u yP vD hu
  have xZ:=ae rq
  have H2:=ae h2
  have H3:=ae h3
  have HC:=ae bO
  have HG:=ae hg
  clear h1 vD rq bO HP et iL h2 h3 hv hg
  go_wp2_with fail
  refine HC.out.mono ?_
  intro e w7 hO
  have he:=hO.res
  subst he
  have iM:=ae (HL.out.next hO)
  have gH:w7.cell? ⟨kb,0,none⟩=some (.int .i64 (K:Int)):=by rw[al iM.out.nod];exact eZ
  rcases xZ.out with⟨ht,hp,hpe,Iz⟩ | ⟨u,hu,p2,lO,ia,hpe,Iz⟩
  ·rw[ht]
   simp only[Option.getD_none,Option.isSome_none]
   have HP1:=ae hp
   have VD:=ae hpe
   have Rk:=ae Iz
   clear ht xZ HC hO hp hpe Iz
   have eO:∀(w8:World) (B:Bool),aa (fun _=>False) w7 w8->B=decide (¬(K=8/\k=0))->fu R c tv o a tb far rn w (.returned (.tuple #[.int .i64 (t:Int),.bool B])) w8:=by
    intro w8 B hw8 hB
    obtain⟨c7,jN⟩:=iM.out.st
    obtain⟨e1,e2⟩:=H3.out.lastE
    rw[VD.out]at e1
    rw[Rk.out]at e2
    refine lj (jN.same hw8) (hw8.blk iM.out.trc (fun x=>x)) (((jE.out.mono (fun _ _ x=>x.elim)).trans iM.out.kept).trans (hw8.mono (fun _ _ x=>x.elim))) e1 e2 ?_
    rw[<-H2.out,HP1.out,hB]
    by_cases hc:K=8/\k=0
    ·rw[if_pos hc,Vx.out hc.2];simp[hc]
    ·rw[if_neg hc];simp[hc]
   have HF:=ae eO
   clear eO
   by_cases Cj:k=0
   ·subst Cj
    rcases tK.out with h7 | h8
    ·subst h7
     go_wp2_with fail
     go_quiet (fail)
     go_wp2
     go_ret2
     exact HF.out _ _ ((aa.refl _ _).drewN _) rfl
    ·subst h8
     go_wp2_with fail
     go_quiet (fail)
     go_wp2
     go_ret2
     exact HF.out _ _ ((aa.refl _ _).drewN _) rfl
   ·have ux:(k:Int) > 0:=by omega
    have co:0<(k:Int):=by omega
    have HB:Hid (true=decide (¬(K=8/\k=0))):=by unfold Hid;simp;omega
    go_wp2_with fail
    go_quiet (fail)
    go_wp2
    go_ret2
    exact HF.out _ _ ((aa.refl _ _).drewN _) HB.out
  ·have GN:=Za.out u hu
   rw[hu]
   simp only[Option.getD_some,Option.isSome_some]
   have nW:=ae lO
   have HPT:=ae ia
   have VD:=ae hpe
   have Rk:=ae Iz
   obtain⟨qdd,qbP⟩:=GN
   clear hu lO xZ HC hO Za ia hpe Iz
   go_wp2
   go_roundg g
   case measure=>have:=HG.out;omega
   case rel=>exact⟨k+1,u,_,_,p2,by omega,qbP,fun x=>absurd x (by omega),rfl,by go_num,iM.out,nW.out,by rw[<-HPT.out];exact H2.out,by have h9:=H3.out;rw[VD.out,Rk.out]at h9;exact h9.step⟩
theorem H9 {R:Rc}{f:Nat}(hM:mf R f)(hs:R.s.size<=60)(zL:R.ns.length<=5000){nc:Array Value}{ND:Nd}{v:Value}{base a dp tb x:Nat}{p:Ot}{far:Int × Nat}{rn:Nat}{c:Nat->Option Cl}{tv:Value}{w:World}(NI:aJ nc ND v)(c9:w.ownsRow base 3 1 v ND.subs.length (ND.subs.map ee))(ha:a<=R.s.size)(co:ND.kind=6)(hx:ND.subs=[x])(oL:x<R.ns.length)
  (hm:bR (am R.s) R.s.size R.rs R.ns f x a dp=some p) (hS:m7 R w c tv) (ht:cz w tb far rn) (gW:rn<=cJ) (hf:-1<=far.1):
  Calls Tryz.prog 137 #[.pointer (some ⟨R.fb,0,none⟩),.agg nc,.int .i64 (a:Int),.pointer (some ⟨tb,0,none⟩)] w fun e w'=>fu R c tv (if p.to.isNone then ⟨some a,p.ev,p.rn,[]⟩ else p) a tb far rn w e w':=by
 obtain⟨o',KF⟩:∃o':Ot,o'=(if p.to.isNone then ⟨some a,p.ev,p.rn,[]⟩ else p):=⟨_,rfl⟩
 rw[<-KF]
 have MS:=ae KF
 clear KF
 obtain⟨f0,f1,f2,f3⟩:=di hS.fld.at_
 have mz:=av f0
 have ho:=cM NI.one
 have lE:Sz nc:=NI.size
 have eZ:=NI.kind
 have k6:=NI.subs
 have qA:tb<w.heap.size:=ag (show ai w tb=_ from ht)
 have K1:aa (fun _=>False) w (w.alloc (.cells nc 179)):=(aa.refl _ w).alloc _
 unfold ee at eZ
 rw[co]at eZ
 obtain⟨kb,dx⟩:∃kb,kb=w.heap.size:=⟨_,rfl⟩
 have qv:ai (w.alloc (.cells nc 179)) kb=some (.cells nc 179 (0,0)):=(by rw[dx];exact au _ _)
 have Ny:Hid (Ml R tv (w.alloc (.cells nc 179)) kb nc tb far rn (w.alloc (.cells nc 179))):=⟨⟨c,hS.same K1⟩,K1.blk ht (fun x=>x),gW,hf,aa.refl _ _,qv⟩
 have Dm:=az c9 K1 (fun _ _ x=>x)
 have PP:=ae (hS.same K1)
 have Rp:Hid (cz (w.alloc (.cells nc 179)) tb far rn):=K1.blk ht (fun x=>x)
 have jE:=ae K1
 have HM:=ae hm
 have HX:=ae hx
 clear hm c9 hS ht K1 co hx
 go_enter Tryz.func137,Tryz.ntmps137
 go_wp2_with fail
 rw[<-dx]
 generalize oi:(w.alloc (.cells nc 179))=w0 at *
 have PR:=ae dx
 clear dx oi
 go_loopg [2,10] 0 (fun gn v2 v10 wz=>v2=.int .i64 a/\v10=.int .i64 0/\Hid (Ml R tv w0 kb nc tb far rn wz))
 case atStart=>exact⟨rfl,rfl,Ny⟩
 case round=>
  obtain⟨rfl,rfl,HL⟩:=hrel
  obtain⟨c1,iL⟩:=HL.out.st
  have cU:wr.cell? ⟨kb,261,none⟩=some v:=by rw[al HL.out.nod];exact k6
  have et:=HL.out.subs Rp.out PP.out Dm
  obtain⟨sb,iK,hv,kj⟩:=cD et (k:=0) (by rw[HX.out];simp)
  rw[HX.out]at hv kj
  simp only[List.length_cons,List.length_nil,List.getD_cons_zero]at hv kj
  rw[hv]at cU
  have bO:=hM x a dp p tb far rn c1 tv wr oL ha HM.out iL HL.out.trc HL.out.rn HL.out.fa
  have HC:=ae bO
  clear bO et iL hv
  go_wp2_with fail
  refine HC.out.mono ?_
  intro e w7 hO
  have he:=hO.res
  subst he
  have iM:=ae (HL.out.next hO)
  have gH:w7.cell? ⟨kb,0,none⟩=some (.int .i64 6):=by rw[al iM.out.nod];exact eZ
  have HTR:=ae hO.trc
  cases eQ:p.to with
  | none=>
   simp only[Option.getD_none,Option.isSome_none]
   have vI:=ae eQ
   clear eQ HC hO
   go_wp2_with fail
   go_quiet (fail)
   go_wp2
   go_ret2
   obtain⟨c7,jN⟩:=iM.out.st
   have eo:o'=⟨some a,p.ev,p.rn,[]⟩:=by rw[MS.out,vI.out];rfl
   rw[eo]
   exact lj (o:=⟨some a,p.ev,p.rn,[]⟩) (jN.same ((aa.refl _ _).drewN _)) (show cz (World.drewN _ _) tb _ _ from iM.out.trc) (((jE.out.mono (fun _ _ x=>x.elim)).trans iM.out.kept).drewN _) rfl rfl rfl
  | some u=>
   simp only[Option.getD_some,Option.isSome_some]
   have vI:=ae eQ
   clear eQ HC hO
   go_wp2
   go_ret2
   obtain⟨c7,jN⟩:=iM.out.st
   have eo:o'=p:=by rw[MS.out,vI.out];rfl
   rw[eo]
   exact lj (o:=p) jN iM.out.trc ((jE.out.mono (fun _ _ x=>x.elim)).trans iM.out.kept) rfl rfl (by rw[vI.out];try rfl)
end Go.Proofs.YtagklnaaoclmhaaGreatDoor
