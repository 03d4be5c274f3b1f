import Derived.Test.YtagklnaaoclmhaaGreatDoorMnAL
import Derived.Laws.EntriesVeiled
set_option linter.unusedSimpArgs false
set_option linter.unusedVariables false
set_option maxRecDepth 100000
set_option maxHeartbeats 16000000
namespace Go.Proofs.YtagklnaaoclmhaaGreatDoor
open Go.RowKit
structure Gm (w:World)(base gb:Nat)(rv:Value)(P:List Nat)(ρ:Nat->Int)(rs:List Rl)(ns:List Nd):Prop where
 gram:∃z:Int,w.heap[gb]?=some (.cells #[rv,.int .i64 z] 150)
 own:w.ownsRow base 189 3 rv rs.length (rs.flatMap (uW P))
 ar:Ar w base (fun _=>True) P ρ ns
 brk:∃L:List Nat,w.cell? ⟨gb,1,none⟩=some (.int .i64 (L.length:Int))/\Bk w P L ns
theorem Gm.kept {S:Nat->Prop}{w w':World}{base gb:Nat}{rv:Value}{P:List Nat}{ρ:Nat->Int}{rs:List Rl}{ns:List Nd}(h:Gm w base gb rv P ρ rs ns)(hk:aa S w w')(hs:∀j c t,S j->ai w j=some (.cells c t (0,0))->t≠150/\t≠189/\t≠203/\t≠187/\t≠321):Gm w' base gb rv P ρ rs ns:=by
 obtain⟨z,hz⟩:=h.gram
 have mA:=hk.block gb (ag (show ai w gb=_ from hz)) (fun x=>(hs _ _ _ x hz).1 rfl)
 refine⟨⟨z,?_⟩,?_,⟨h.ar.len,h.ar.sub,fun i hi=>?_,h.ar.nd,h.ar.low⟩,?_⟩
 rotate_left 3
 ·obtain⟨L,hL,hB⟩:=h.brk
  refine⟨L,by rw[<-hL];simp only[World.cell?,mA],⟨fun k fU=>⟨(hB.num k fU).1,?_⟩,hB.sub⟩⟩
  rw[<-(hB.num k fU).2]
  have hm:=(hB.num k fU).1
  generalize L[k]=x at hm ⊢
  obtain⟨i,hi,rfl⟩:=List.getElem_of_mem hm
  have hp:=h.ar.part i (by rw[<-h.ar.len];exact hi)
  have he:P.getD i 0=P[i]:=by simp[List.getD,List.getElem?_eq_getElem hi]
  rw[he]at hp
  obtain⟨z,vR,vP,h1,h2,_⟩:=hp
  have:=hk.block P[i] (ag (show ai w P[i]=_ from h1)) (fun x=>(hs _ _ _ x h1).2.2.1 rfl)
  simp only[World.cell?,this]
 ·rw[mA];exact hz
 ·exact aC h.own hk (fun j hj x=>by
   obtain⟨c,hc⟩:=ak h.own hj
   exact(hs _ _ _ x hc).2.1 rfl)
 ·obtain⟨z1,vR,vP,h1,h2,h3,h4,h5,h6⟩:=h.ar.part i hi
  refine⟨z1,vR,vP,?_,trivial,aC h3 hk (fun j hj x=>?_),fun _ _=>trivial,aC h5 hk (fun j hj x=>?_),fun _ _=>trivial⟩
  ·rw[hk.block _ (ag (show ai w _=_ from h1)) (fun x=>(hs _ _ _ x h1).2.2.1 rfl)];exact h1
  ·obtain⟨c,hc⟩:=ak h3 hj
   exact(hs _ _ _ x hc).2.2.2.2 rfl
  ·obtain⟨c,hc⟩:=ak h5 hj
   exact(hs _ _ _ x hc).2.2.2.1 rfl
theorem Gm.same {w w':World}{base gb:Nat}{rv:Value}{P:List Nat}{ρ:Nat->Int}{rs:List Rl}{ns:List Nd}(h:Gm w base gb rv P ρ rs ns)(hk:aa (fun _=>False) w w'):Gm w' base gb rv P ρ rs ns:=h.kept hk (fun _ _ _ x=>x.elim)
theorem Gm.setRule {w:World}{base gb:Nat}{rv:Value}{P:List Nat}{ρ:Nat->Int}{rs:List Rl}{ns:List Nd}(h:Gm w base gb rv P ρ rs ns){i:Nat}(hi:i<ns.length)(r:Int):Gm (w.setCell ⟨P.getD i 0,1,none⟩ (.int .i64 r)) base gb rv P (fun j=>if j=i then r else ρ j) rs ns:=by
 obtain⟨z,hz⟩:=h.gram
 obtain⟨z0,wR,wP,e1,_⟩:=h.ar.part i hi
 have hk:aa (·=P.getD i 0) w (w.setCell ⟨P.getD i 0,1,none⟩ (.int .i64 r)):=(aa.refl (·=P.getD i 0) w).setCell (p:=⟨P.getD i 0,1,none⟩) (fun _=>rfl) _
 have Nl:∀(e size n:Nat) (v:Value) (xs:List Value),e≠203->w.ownsRow base e size v n xs->∀j,v.ownBlock=some j->¬j=P.getD i 0:=by
  intro e size n v xs he ho j hv hj
  subst hj
  obtain⟨c,hc⟩:=ak ho hv
  rw[show ai w (P.getD i 0)=_ from e1]at hc
  simp at hc
  exact he hc.2.symm
 have mA:=hk.block gb (ag (show ai w gb=_ from hz)) (fun x=>by
   have x':gb=P.getD i 0:=x
   rw[<-x',hz]at e1
   simp at e1)
 refine⟨⟨z,?_⟩,aC h.own hk (Nl _ _ _ _ _ (by decide) h.own),⟨h.ar.len,h.ar.sub,fun j hj=>?_,h.ar.nd,h.ar.low⟩,?_⟩
 rotate_left 2
 ·obtain⟨L,hL,hB⟩:=h.brk
  refine⟨L,by rw[<-hL];simp only[World.cell?,mA],⟨fun k fU=>⟨(hB.num k fU).1,?_⟩,hB.sub⟩⟩
  have h0:=(hB.num k fU).2
  by_cases hx:L[k]=P.getD i 0
  ·rw[hx]at h0 ⊢
   rw[<-h0]
   simp only[World.cell?,aj e1,e1];simp[Fx]
  ·rw[<-h0]
   have bj:=h.ar.lt _ (hB.num k fU).1
   have:=hk.block L[k] bj hx
   simp only[World.cell?,this]
 ·rw[mA];exact hz
 ·obtain⟨z1,vR,vP,h1,h2,h3,h4,h5,h6⟩:=h.ar.part j hj
  by_cases Oj:j=i
  ·subst Oj
   simp only[if_true]
   refine⟨z1,vR,vP,?_,trivial,aC h3 hk (Nl _ _ _ _ _ (by decide) h3),fun _ _=>trivial,aC h5 hk (Nl _ _ _ _ _ (by decide) h5),fun _ _=>trivial⟩
   rw[aj h1]
   simp[Fx]
  ·simp only[if_neg Oj]
   refine⟨z1,vR,vP,?_,trivial,aC h3 hk (Nl _ _ _ _ _ (by decide) h3),fun _ _=>trivial,aC h5 hk (Nl _ _ _ _ _ (by decide) h5),fun _ _=>trivial⟩
   rw[hk.block _ (ag (show ai w _=_ from h1)) (fun x=>Oj ?_)]
   ·exact h1
   ·have C8:j<P.length:=by rw[h.ar.len];exact hj
    have Ol:i<P.length:=by rw[h.ar.len];exact hi
    have x':P.getD j 0=P.getD i 0:=x
    simp only[List.getD,List.getElem?_eq_getElem C8,List.getElem?_eq_getElem Ol,Option.getD_some]at x'
    exact(List.getElem_inj h.ar.nd).1 x'
theorem Ln {w:World}{base:Nat}{mv:Value}{P:List Nat}{ms:List Mn}(h:w.ownsRow base 198 3 mv ms.length (ms.flatMap (Cq P))){k:Nat}(hk:k<ms.length):
  ∃g cap,mv=.slice (some ⟨g,0,none⟩) ms.length cap/\w.cell? ⟨g,k*3,none⟩=some (.string (ba ms[k].name))/\w.cell? ⟨g,k*3+1,none⟩=some (.int .i64 (ms[k].at_:Int))/\w.cell? ⟨g,k*3+2,none⟩=some (.pointer (ms[k].part.map fun i=>⟨P.getD i 0,0,none⟩)):=by
 obtain⟨g,cap,hv,_,_⟩:=h.form (by omega)
 subst hv
 have hf:∀a:Mn,(Cq P a).length=3:=fun _=>rfl
 refine⟨g,cap,rfl,?_,?_,?_⟩
 ·rw[h.cellAt (k*3) (by omega)]
  have:=ep (Cq P) 3 hf ms k 0 (by omega) hk
  rw[Nat.add_zero]at this
  rw[this];rfl
 ·rw[h.cellAt (k*3+1) (by omega),ep (Cq P) 3 hf ms k 1 (by omega) hk];rfl
 ·rw[h.cellAt (k*3+2) (by omega),ep (Cq P) 3 hf ms k 2 (by omega) hk];rfl
structure V2 (base gb:Nat)(rv:Value)(P:List Nat)(rs:List Rl)(ns:List Nd)(w:World)(e:Ending)(w':World):Prop where
 ok:uN rs ns<0->e=.returned (.tuple #[.int .i64 0,.bool true])/\∃ρ,Gm w' base gb rv P ρ rs ns/\∀i,i<ns.length->(ap ns i).kind=3->ρ i=(dI rs (ap ns i):Int)
 no:0<=uN rs ns->e=.returned (.tuple #[.int .i64 (uN rs ns),.bool false])
 kept:aa (fun k=>∃i,i<ns.length/\P.getD i 0=k) w w'
structure Zl (base gb:Nat)(rv mv:Value)(P:List Nat)(ms:List Mn)(rs:List Rl)(ns:List Nd)(w:World)(k:Nat)(ρ:Nat->Int)(wx:World):Prop where
 gm:Gm wx base gb rv P ρ rs ns
 own:wx.ownsRow base 198 3 mv ms.length (ms.flatMap (Cq P))
 good:∀j (h:j<ms.length),j<k->oA rs ms[j]=false
 told:∀j (h:j<ms.length),j<k->∀i,ms[j].part=some i->ρ i=(dI rs (ap ns i):Int)
 kept:aa (fun k=>∃i,i<ns.length/\P.getD i 0=k) w wx
theorem Zl.same {w w':World}{base gb k:Nat}{rv mv:Value}{P:List Nat}{ms:List Mn}{ρ:Nat->Int}{rs:List Rl}{ns:List Nd}{wx:World}(h:Zl base gb rv mv P ms rs ns w k ρ wx)(hk:aa (fun _=>False) wx w'):Zl base gb rv mv P ms rs ns w k ρ w':=
 ⟨h.gm.same hk,aC h.own hk (fun _ _ x=>x),h.good,h.told,h.kept.trans (hk.mono (fun _ _ x=>x.elim))⟩
theorem zn (base gb p:Nat)(rv mv:Value)(P:List Nat)(ms:List Mn)(rs:List Rl)(ns:List Nd)(w:World)(hG:Gm w base gb rv P (fun _=>0) rs ns)(hO:w.ownsRow base 198 3 mv ms.length (ms.flatMap (Cq P)))(hM:ow ms rs ns p)(hl:rs.length<=8)(wl:ms.length<=5000):
  Calls Tryz.prog 68 #[.pointer (some ⟨gb,0,none⟩),mv] w fun e w'=>V2 base gb rv P rs ns w e w':=by
 obtain⟨mp,mc,tq⟩:=an hO
 subst tq
 go_enter Tryz.func68,Tryz.ntmps68
 go_wp2
 go_loopg [11] ms.length (fun n i wx=>∃k ρ,Hid (k+n=ms.length)/\i=.int .i64 (k:Nat)/\Zl base gb rv (.slice mp ms.length mc) P ms rs ns w k ρ wx)
 case atStart=>exact⟨0,fun _=>0,Nat.zero_add _,rfl,hG,hO,fun j _ h=>absurd h (by omega),fun j _ h=>absurd h (by omega),aa.refl _ _⟩
 case round=>
  obtain⟨k,ρ,eh,rfl,hI⟩:=hrel
  obtain⟨m,hm⟩:∃m,m=gk:=⟨gk,rfl⟩
  subst hm
  by_cases bj:k<ms.length
  ·obtain⟨mb,kT,tq,r0,r1,r2⟩:=Ln hI.own bj
   simp only[Value.slice.injEq]at tq
   obtain⟨hp,_,fO⟩:=tq
   subst hp fO
   have eP:=(hM.mem ms[k]).1 (List.getElem_mem bj)
   have WG:=fun o=>hI.same ((aa.refl (fun _=>False) wr).alloc o)
   have oH:=hM.first bj hI.good
   have d9:=hI.good
   have QD:=hI.told
   obtain⟨mk,ld⟩:∃x,x=ms[k]:=⟨_,rfl⟩
   rw[<-ld]at r0 r1 r2 eP oH
   obtain⟨nm,at_,pt⟩:=mk
   dsimp only at *
   have qcX:=jL r0
   cases pt with
   | none=>
    simp only[Option.map_none]at r2
    have JU:=WG (.cells #[.string (ba nm),.int .i64 (at_:Int),.pointer none] 198)
    obtain⟨z,hz⟩:=JU.gm.gram
    have fT:=wZ base gb rv z P rs nm _ hz JU.gm.own hl
    go_wp2_with fail
    refine fT.mono ?_
    rintro e w7 ⟨rfl,eE⟩
    have Qd:=JU.same eE
    have tj:w7.heap[wr.heap.size]?=some (.cells #[.string (ba nm),.int .i64 (at_:Int),.pointer none] 198):=by
     rw[eE.block _ (by simp) (fun h=>h)];exact heap_alloc_new _ _
    obtain⟨x0,x1,x2,xf0,xf1,xf2⟩:=kV tj
    obtain⟨i0,vC,iC⟩:∃i0,dg rs nm=some i0/\i0<rs.length:=by
     rcases eP with⟨_,r,hr,gW,_⟩ | ⟨i,hi,_⟩
     ·obtain⟨j,hj,rfl⟩:=List.getElem_of_mem hr
      obtain⟨i0,h1,_⟩:=uj hj
      rw[gW]at h1
      exact⟨i0,h1,kY h1⟩
     ·cases hi
    have Kj:j9 rs nm=(i0:Int):=by unfold j9;rw[vC]
    obtain⟨rb,wH,dU,q0,q1,q2⟩:=kD Qd.gm.own iC
    obtain⟨z7,Tn⟩:=Qd.gm.gram
    obtain⟨g0,g1,P6,P8⟩:=g7 Tn
    have xj:oA rs ⟨nm,at_,none⟩=decide (rs[i0].at_≠at_):=by
     unfold oA
     simp only[vC,Option.getD_some]
     rw[bQ _ _ _ _ iC]
    rw[Kj]
    rw[dU]at g0
    have UU:=Qd.kept
    obtain⟨ra,hra⟩:∃ra,ra=rs[i0].at_:=⟨_,rfl⟩
    rw[<-hra]at q1 xj
    clear hra r0 r1 r2 hz fT JU WG
    by_cases dA:ra=at_
    ·have qq:((ra:Int) != (at_:Int))=false:=by simp[dA]
     have HB:Hid (oA rs ⟨nm,at_,none⟩=false):=by unfold Hid;rw[xj];simp[dA]
     have HI:=ae Qd
     clear dA xj oH
     go_wp2
     go_quiet (fail)
     go_wp2
     go_roundg (m-1)
     case measure=>have:=eh.out;omega
     case rel=>
      have yx:=HI.out.same ((aa.refl (fun _=>False) w7).drewN nq)
      refine⟨k+1,ρ,by have:=eh.out;unfold Hid;omega,by go_num,yx.gm,yx.own,fun j hj hjk=>?_,fun j hj hjk i hi=>?_,yx.kept⟩
      ·rcases Nat.lt_or_eq_of_le (Nat.lt_succ_iff.1 hjk) with h1 | h1
       ·exact d9 j hj h1
       ·subst h1;rw[<-ld];exact HB.out
      ·rcases Nat.lt_or_eq_of_le (Nat.lt_succ_iff.1 hjk) with h1 | h1
       ·exact QD j hj h1 i hi
       ·subst h1;rw[<-ld]at hi;cases hi
    ·have qq:((ra:Int) != (at_:Int))=true:=by simp;omega
     have HB:Hid (uN rs ns=(at_:Int)):=oH (by rw[xj];simpa using dA)
     clear dA xj oH
     go_wp2
     go_quiet (fail)
     go_wp2
     go_ret2
     exact⟨fun h=>absurd h (by rw[HB.out];omega),fun _=>by rw[HB.out];rfl,UU.drewN _⟩
   | some i=>
    simp only[Option.map_some]at r2
    have JU:=WG (.cells #[.string (ba nm),.int .i64 (at_:Int),.pointer (some ⟨P.getD i 0,0,none⟩)] 198)
    obtain⟨z,hz⟩:=JU.gm.gram
    have fT:=wZ base gb rv z P rs nm _ hz JU.gm.own hl
    obtain⟨fm,Iu,qaV⟩:i<ns.length/\(ap ns i).kind=3/\(ap ns i).name=nm:=by
     rcases eP with⟨h,_⟩ | ⟨j,hj,h1,h2,h3,h4⟩
     ·cases h
     ·have:=Option.some.inj hj
      subst this
      exact⟨h1,h2,h3⟩
    obtain⟨pi,hpi⟩:∃pi,pi=P.getD i 0:=⟨_,rfl⟩
    rw[<-hpi]at r2 JU fT
    have Y9:=ae hpi
    clear hpi
    go_wp2_with fail
    refine fT.mono ?_
    rintro e w7 ⟨rfl,eE⟩
    have Qd:=JU.same eE
    have tj:w7.heap[wr.heap.size]?=some (.cells #[.string (ba nm),.int .i64 (at_:Int),.pointer (some ⟨pi,0,none⟩)] 198):=by
     rw[eE.block _ (by simp) (fun h=>h)];exact heap_alloc_new _ _
    obtain⟨x0,x1,x2,xf0,xf1,xf2⟩:=kV tj
    have UU:=Qd.kept
    cases vC:dg rs nm with
    | none=>
     have Kj:j9 rs nm=-1:=by unfold j9;rw[vC]
     have HB:Hid (uN rs ns=(at_:Int)):=oH (by unfold oA;simp[vC])
     rw[Kj]
     clear oH fT JU WG r0 r1 r2 hz
     go_wp2
     go_quiet (fail)
     go_wp2
     go_ret2
     exact⟨fun h=>absurd h (by rw[HB.out];omega),fun _=>by rw[HB.out];rfl,UU.drewN _⟩
    | some i0=>
     have Kj:j9 rs nm=(i0:Int):=by unfold j9;rw[vC]
     have HB:Hid (oA rs ⟨nm,at_,some i⟩=false):=by unfold Hid oA;simp[vC]
     have HR:Hid ((i0:Int)=(dI rs (ap ns i):Int)):=by unfold Hid dI;rw[qaV,vC];rfl
     have HI:=ae Qd
     have hpc:w7.cell? ⟨pi,1,none⟩=some (.int .i64 (ρ i))/\w7.frozen? ⟨pi,1,none⟩=false:=by
      obtain⟨z1,vR,vP,h1,_⟩:=Qd.gm.ar.part i fm
      rw[<-Y9.out]at h1
      constructor <;> simp[World.cell?,World.frozen?,h1,Fx]
     obtain⟨pc0,pc1⟩:=hpc
     have iC:¬(i0:Int)<0:=by omega
     rw[Kj]
     clear oH fT JU WG r0 r1 r2 hz Kj
     go_wp2
     go_quiet (fail)
     go_wp2
     go_roundg (m-1)
     case measure=>have:=eh.out;omega
     case rel=>
      have yx:=HI.out.same ((aa.refl (fun _=>False) w7).drewN nq)
      have oI:=yx.gm.setRule fm (i0:Int)
      rw[<-Y9.out]at oI
      refine⟨k+1,_,by have:=eh.out;unfold Hid;omega,by go_num,oI,aC yx.own ((aa.refl (·=pi) _).setCell (p:=⟨pi,1,none⟩) (fun _=>rfl) _) (fun j hj e=>?_),fun j hj hjk=>?_,fun j hj hjk i' eM=>?_,yx.kept.setCell (p:=⟨pi,1,none⟩) (fun _=>⟨i,fm,Y9.out.symm⟩) _⟩
      ·obtain⟨c,hc⟩:=ak yx.own hj
       obtain⟨z1,vR,vP,h1,_⟩:=yx.gm.ar.part i fm
       have e':j=pi:=e
       rw[<-Y9.out,<-e',show (w7.drewN nq).heap[j]?=_ from hc]at h1
       simp at h1
      ·rcases Nat.lt_or_eq_of_le (Nat.lt_succ_iff.1 hjk) with h1 | h1
       ·exact d9 j hj h1
       ·subst h1;rw[<-ld];exact HB.out
      ·by_cases hii:i'=i
       ·rw[if_pos hii,hii];exact HR.out
       ·rw[if_neg hii]
        rcases Nat.lt_or_eq_of_le (Nat.lt_succ_iff.1 hjk) with h1 | h1
        ·exact QD j hj h1 i' eM
        ·subst h1;rw[<-ld]at eM;exact absurd (Option.some.inj eM).symm hii
  ·have HB:Hid (uN rs ns<0):=hM.none (fun j hj=>hI.good j hj (by omega))
   have HI:=ae hI
   clear hI
   go_wp2
   go_ret2
   refine⟨fun _=>⟨rfl,ρ,HI.out.gm,fun i hi ff=>?_⟩,fun h=>absurd HB.out (by omega),HI.out.kept⟩
   have eP:=(hM.mem ⟨(ap ns i).name,(ap ns i).at_,some i⟩).2 (.inr ⟨i,rfl,hi,ff,rfl,rfl⟩)
   obtain⟨j,hj,he⟩:=List.getElem_of_mem eP
   exact HI.out.told j hj (by omega) i (by rw[he])
theorem mT {w:World}{base:Nat}{v:Value}{P l:List Nat}(h:w.ownsRow base 187 1 v l.length (l.map (aO P))){k:Nat}(hk:k<l.length):
  ∃sb cap,v=.slice (some ⟨sb,0,none⟩) l.length cap/\w.cell? ⟨sb,k,none⟩=some (.pointer (some ⟨P.getD (l.getD k 0) 0,0,none⟩)):=by
 obtain⟨sb,cap,hv,_,_⟩:=h.form (by omega)
 subst hv
 refine⟨sb,cap,rfl,?_⟩
 rw[h.cellAt k (by omega)]
 simp[aO,hk,List.getD]
structure IQ (w:World)(b:Bool)(e:Ending)(w':World):Prop where
 res:∃x:Int,e=.returned (.int .i64 x)/\decide (x ≥ 0)=b
 kept:aa (fun _=>False) w w'
theorem tR {l:List Nat}{g:Nat->Bool}(h:∀q,q<l.length->g (l.getD q 0)=false):l.any g=false:=by
 rw[List.any_eq_false]
 intro x hx
 obtain⟨q,hq,rfl⟩:=List.getElem_of_mem hx
 have:=h q hq
 simp[List.getD,List.getElem?_eq_getElem hq]at this
 simp[this]
theorem yd {l:List Nat}{g:Nat->Bool}{q:Nat}(hq:q<l.length)(h:g (l.getD q 0)=true):l.any g=true:=by
 rw[List.any_eq_true]
 exact⟨l[q],List.getElem_mem hq,by simpa [List.getD,List.getElem?_eq_getElem hq] using h⟩
theorem py {l:List Nat}{q:Nat}(hq:q<l.length):l.getD q 0∈l:=by
 simp[List.getD,List.getElem?_eq_getElem hq]
theorem OP (base:Nat)(v:Value)(P l:List Nat)(g:Nat->Bool)(kb:Nat)(w:World)(hO:w.ownsRow base 187 1 v l.length (l.map (aO P)))(hl:l.length<=9223372036854775807)
  (H:∀q,q<l.length->∀wx,aa (fun _=>False) w wx->Calls Tryz.prog 168 #[.pointer (some ⟨P.getD (l.getD q 0) 0,0,none⟩),.pointer (some ⟨kb,0,none⟩)] wx fun e w'=>e=.returned (.bool (g (l.getD q 0)))/\aa (fun _=>False) wx w'):
  Calls Tryz.prog 170 #[v,.func (.func 168) #[] #[.pointer (some ⟨kb,0,none⟩)]] w fun e w'=>IQ w (l.any g) e w':=by
 obtain⟨p,cap,dU⟩:=an hO
 subst dU
 go_enter Tryz.func170,Tryz.ntmps170
 go_wp2
 go_loopg [8] l.length (fun n i wx=>∃k:Nat,Hid (k+n=l.length)/\i=.int .i64 k/\Hid (∀j,j<k->g (l.getD j 0)=false)/\aa (fun _=>False) w wx)
 case atStart=>exact⟨0,Nat.zero_add _,rfl,fun j h=>absurd h (by omega),aa.refl _ _⟩
 case round=>
  obtain⟨k,eh,rfl,HA,hK⟩:=hrel
  obtain⟨m,hm⟩:∃m,m=gk:=⟨gk,rfl⟩
  subst hm
  have kK:=aC hO hK (fun _ _ h=>h)
  by_cases bj:k<l.length
  ·obtain⟨sb,kT,dU,r0⟩:=mT kK bj
   simp only[Value.slice.injEq]at dU
   obtain⟨hp,_,fO⟩:=dU
   subst hp fO
   have hf:=H k bj wr hK
   have IM:=ae (fun h:g (l.getD k 0)=false=>(fun j (hj:j<k+1)=>by
     rcases Nat.lt_or_eq_of_le (Nat.lt_succ_iff.1 hj) with h1 | h1
     ·exact HA.out j h1
     ·subst h1;exact h:∀j,j<k+1->g (l.getD j 0)=false))
   have II:=ae (fun h:g (l.getD k 0)=true=>yd bj h)
   generalize g (l.getD k 0)=gv at *
   obtain⟨pq,lX⟩:∃pq,pq=P.getD (l.getD k 0) 0:=⟨_,rfl⟩
   rw[<-lX]at r0 hf
   clear HA lX H
   go_wp2_with fail
   refine hf.mono ?_
   rintro e w7 ⟨rfl,eE⟩
   have lM:=hK.trans eE
   cases gv
   ·have HN:=ae (IM.out rfl)
    clear IM II
    go_wp2
    go_roundg (m-1)
    case measure=>have:=eh.out;omega
    case rel=>exact⟨k+1,by have:=eh.out;unfold Hid;omega,by go_num,HN.out,lM⟩
   ·have HN:=ae (II.out rfl)
    clear IM II
    go_wp2
    go_ret
    exact⟨⟨(k:Int),rfl,by rw[HN.out];simp⟩,lM⟩
  ·have HF:Hid (l.any g=false):=tR (fun q hq=>HA.out q (by omega))
   clear HA
   go_wp2
   go_ret
   exact⟨⟨-1,rfl,by rw[HF.out];rfl⟩,hK⟩
theorem CL (base:Nat)(v:Value)(P l:List Nat)(g:Nat->Bool)(kb:Nat)(w:World)(hO:w.ownsRow base 187 1 v l.length (l.map (aO P)))(hl:l.length<=9223372036854775807)
  (H:∀q,q<l.length->∀wx,aa (fun _=>False) w wx->Calls Tryz.prog 168 #[.pointer (some ⟨P.getD (l.getD q 0) 0,0,none⟩),.pointer (some ⟨kb,0,none⟩)] wx fun e w'=>e=.returned (.bool (g (l.getD q 0)))/\aa (fun _=>False) wx w'):
  Calls Tryz.prog 148 #[v,.func (.func 168) #[] #[.pointer (some ⟨kb,0,none⟩)]] w fun e w'=>e=.returned (.bool (l.any g))/\aa (fun _=>False) w w':=by
 have Kp:=OP base v P l g kb w hO hl H
 obtain⟨p,cap,dU⟩:=an hO
 subst dU
 clear H
 generalize l.any g=gv at *
 go_enter Tryz.func148,Tryz.ntmps148
 go_wp2_with fail
 refine Kp.mono ?_
 intro e w1 ci
 obtain⟨x,rfl,hx⟩:=ci.res
 have hK:=ci.kept
 go_wp2
 go_ret
 exact⟨by rw[<-hx];rfl,hK⟩
theorem OQ (base:Nat)(v:Value)(P l:List Nat)(g:Nat->Bool)(kb:Nat)(w:World)(hO:w.ownsRow base 187 1 v l.length (l.map (aO P)))(hl:l.length<=9223372036854775807)
  (H:∀q,q<l.length->∀wx,aa (fun _=>False) w wx->Calls Tryz.prog 169 #[.pointer (some ⟨P.getD (l.getD q 0) 0,0,none⟩),.pointer (some ⟨kb,0,none⟩)] wx fun e w'=>e=.returned (.bool (g (l.getD q 0)))/\aa (fun _=>False) wx w'):
  Calls Tryz.prog 170 #[v,.func (.func 169) #[] #[.pointer (some ⟨kb,0,none⟩)]] w fun e w'=>IQ w (l.any g) e w':=by
 obtain⟨p,cap,dU⟩:=an hO
 subst dU
 go_enter Tryz.func170,Tryz.ntmps170
 go_wp2
 go_loopg [8] l.length (fun n i wx=>∃k:Nat,Hid (k+n=l.length)/\i=.int .i64 k/\Hid (∀j,j<k->g (l.getD j 0)=false)/\aa (fun _=>False) w wx)
 case atStart=>exact⟨0,Nat.zero_add _,rfl,fun j h=>absurd h (by omega),aa.refl _ _⟩
 case round=>
  obtain⟨k,eh,rfl,HA,hK⟩:=hrel
  obtain⟨m,hm⟩:∃m,m=gk:=⟨gk,rfl⟩
  subst hm
  have kK:=aC hO hK (fun _ _ h=>h)
  by_cases bj:k<l.length
  ·obtain⟨sb,kT,dU,r0⟩:=mT kK bj
   simp only[Value.slice.injEq]at dU
   obtain⟨hp,_,fO⟩:=dU
   subst hp fO
   have hf:=H k bj wr hK
   have IM:=ae (fun h:g (l.getD k 0)=false=>(fun j (hj:j<k+1)=>by
     rcases Nat.lt_or_eq_of_le (Nat.lt_succ_iff.1 hj) with h1 | h1
     ·exact HA.out j h1
     ·subst h1;exact h:∀j,j<k+1->g (l.getD j 0)=false))
   have II:=ae (fun h:g (l.getD k 0)=true=>yd bj h)
   generalize g (l.getD k 0)=gv at *
   obtain⟨pq,lX⟩:∃pq,pq=P.getD (l.getD k 0) 0:=⟨_,rfl⟩
   rw[<-lX]at r0 hf
   clear HA lX H
   go_wp2_with fail
   refine hf.mono ?_
   rintro e w7 ⟨rfl,eE⟩
   have lM:=hK.trans eE
   cases gv
   ·have HN:=ae (IM.out rfl)
    clear IM II
    go_wp2
    go_roundg (m-1)
    case measure=>have:=eh.out;omega
    case rel=>exact⟨k+1,by have:=eh.out;unfold Hid;omega,by go_num,HN.out,lM⟩
   ·have HN:=ae (II.out rfl)
    clear IM II
    go_wp2
    go_ret
    exact⟨⟨(k:Int),rfl,by rw[HN.out];simp⟩,lM⟩
  ·have HF:Hid (l.any g=false):=tR (fun q hq=>HA.out q (by omega))
   clear HA
   go_wp2
   go_ret
   exact⟨⟨-1,rfl,by rw[HF.out];rfl⟩,hK⟩
theorem CM (base:Nat)(v:Value)(P l:List Nat)(g:Nat->Bool)(kb:Nat)(w:World)(hO:w.ownsRow base 187 1 v l.length (l.map (aO P)))(hl:l.length<=9223372036854775807)
  (H:∀q,q<l.length->∀wx,aa (fun _=>False) w wx->Calls Tryz.prog 169 #[.pointer (some ⟨P.getD (l.getD q 0) 0,0,none⟩),.pointer (some ⟨kb,0,none⟩)] wx fun e w'=>e=.returned (.bool (g (l.getD q 0)))/\aa (fun _=>False) wx w'):
  Calls Tryz.prog 148 #[v,.func (.func 169) #[] #[.pointer (some ⟨kb,0,none⟩)]] w fun e w'=>e=.returned (.bool (l.any g))/\aa (fun _=>False) w w':=by
 have Kp:=OQ base v P l g kb w hO hl H
 obtain⟨p,cap,dU⟩:=an hO
 subst dU
 clear H
 generalize l.any g=gv at *
 go_enter Tryz.func148,Tryz.ntmps148
 go_wp2_with fail
 refine Kp.mono ?_
 intro e w1 ci
 obtain⟨x,rfl,hx⟩:=ci.res
 have hK:=ci.kept
 go_wp2
 go_ret
 exact⟨by rw[<-hx];rfl,hK⟩
theorem OO (base:Nat)(v:Value)(P l:List Nat)(g:Nat->Bool)(ka kb:Nat)(w:World)(hO:w.ownsRow base 187 1 v l.length (l.map (aO P)))(hl:l.length<=9223372036854775807)
  (H:∀q,q<l.length->∀wx,aa (fun _=>False) w wx->Calls Tryz.prog 149 #[.pointer (some ⟨P.getD (l.getD q 0) 0,0,none⟩),.pointer (some ⟨ka,0,none⟩),.pointer (some ⟨kb,0,none⟩)] wx fun e w'=>e=.returned (.bool (g (l.getD q 0)))/\aa (fun _=>False) wx w'):
  Calls Tryz.prog 170 #[v,.func (.func 149) #[] #[.pointer (some ⟨ka,0,none⟩),.pointer (some ⟨kb,0,none⟩)]] w fun e w'=>IQ w (l.any g) e w':=by
 obtain⟨p,cap,dU⟩:=an hO
 subst dU
 go_enter Tryz.func170,Tryz.ntmps170
 go_wp2
 go_loopg [8] l.length (fun n i wx=>∃k:Nat,Hid (k+n=l.length)/\i=.int .i64 k/\Hid (∀j,j<k->g (l.getD j 0)=false)/\aa (fun _=>False) w wx)
 case atStart=>exact⟨0,Nat.zero_add _,rfl,fun j h=>absurd h (by omega),aa.refl _ _⟩
 case round=>
  obtain⟨k,eh,rfl,HA,hK⟩:=hrel
  obtain⟨m,hm⟩:∃m,m=gk:=⟨gk,rfl⟩
  subst hm
  have kK:=aC hO hK (fun _ _ h=>h)
  by_cases bj:k<l.length
  ·obtain⟨sb,kT,dU,r0⟩:=mT kK bj
   simp only[Value.slice.injEq]at dU
   obtain⟨hp,_,fO⟩:=dU
   subst hp fO
   have hf:=H k bj wr hK
   have IM:=ae (fun h:g (l.getD k 0)=false=>(fun j (hj:j<k+1)=>by
     rcases Nat.lt_or_eq_of_le (Nat.lt_succ_iff.1 hj) with h1 | h1
     ·exact HA.out j h1
     ·subst h1;exact h:∀j,j<k+1->g (l.getD j 0)=false))
   have II:=ae (fun h:g (l.getD k 0)=true=>yd bj h)
   generalize g (l.getD k 0)=gv at *
   obtain⟨pq,lX⟩:∃pq,pq=P.getD (l.getD k 0) 0:=⟨_,rfl⟩
   rw[<-lX]at r0 hf
   clear HA lX H
   go_wp2_with fail
   refine hf.mono ?_
   rintro e w7 ⟨rfl,eE⟩
   have lM:=hK.trans eE
   cases gv
   ·have HN:=ae (IM.out rfl)
    clear IM II
    go_wp2
    go_roundg (m-1)
    case measure=>have:=eh.out;omega
    case rel=>exact⟨k+1,by have:=eh.out;unfold Hid;omega,by go_num,HN.out,lM⟩
   ·have HN:=ae (II.out rfl)
    clear IM II
    go_wp2
    go_ret
    exact⟨⟨(k:Int),rfl,by rw[HN.out];simp⟩,lM⟩
  ·have HF:Hid (l.any g=false):=tR (fun q hq=>HA.out q (by omega))
   clear HA
   go_wp2
   go_ret
   exact⟨⟨-1,rfl,by rw[HF.out];rfl⟩,hK⟩
theorem CK (base:Nat)(v:Value)(P l:List Nat)(g:Nat->Bool)(ka kb:Nat)(w:World)(hO:w.ownsRow base 187 1 v l.length (l.map (aO P)))(hl:l.length<=9223372036854775807)
  (H:∀q,q<l.length->∀wx,aa (fun _=>False) w wx->Calls Tryz.prog 149 #[.pointer (some ⟨P.getD (l.getD q 0) 0,0,none⟩),.pointer (some ⟨ka,0,none⟩),.pointer (some ⟨kb,0,none⟩)] wx fun e w'=>e=.returned (.bool (g (l.getD q 0)))/\aa (fun _=>False) wx w'):
  Calls Tryz.prog 148 #[v,.func (.func 149) #[] #[.pointer (some ⟨ka,0,none⟩),.pointer (some ⟨kb,0,none⟩)]] w fun e w'=>e=.returned (.bool (l.any g))/\aa (fun _=>False) w w':=by
 have Kp:=OO base v P l g ka kb w hO hl H
 obtain⟨p,cap,dU⟩:=an hO
 subst dU
 clear H
 generalize l.any g=gv at *
 go_enter Tryz.func148,Tryz.ntmps148
 go_wp2_with fail
 refine Kp.mono ?_
 intro e w1 ci
 obtain⟨x,rfl,hx⟩:=ci.res
 have hK:=ci.kept
 go_wp2
 go_ret
 exact⟨by rw[<-hx];rfl,hK⟩
def em (S:Nat->Bool):Array Value:=#[.bool (S 0),.bool (S 1),.bool (S 2),.bool (S 3),.bool (S 4),.bool (S 5),.bool (S 6),.bool (S 7)]
theorem gE {w:World}{k t:Nat}{S:Nat->Bool}(h:w.heap[k]?=some (.cells (em S) t)):w.cell? ⟨k,0,none⟩=some (.bool (S 0))/\w.cell? ⟨k,1,none⟩=some (.bool (S 1))/\w.cell? ⟨k,2,none⟩=some (.bool (S 2))/\w.cell? ⟨k,3,none⟩=some (.bool (S 3))/\w.cell? ⟨k,4,none⟩=some (.bool (S 4))/\w.cell? ⟨k,5,none⟩=some (.bool (S 5))/\w.cell? ⟨k,6,none⟩=some (.bool (S 6))/\w.cell? ⟨k,7,none⟩=some (.bool (S 7)):=by
 refine⟨?_,?_,?_,?_,?_,?_,?_,?_⟩ <;> simp[World.cell?,h,em]
def md (base gb:Nat)(rv:Value)(P:List Nat)(ρ:Nat->Int)(rs:List Rl)(ns:List Nd)(S:Nat->Bool)(f:Nat):Prop:=∀(i:Nat) (w:World),i<f->i<ns.length->Gm w base gb rv P ρ rs ns->
 Calls Tryz.prog 145 #[.pointer (some ⟨P.getD i 0,0,none⟩),.agg (em S)] w fun e w'=>e=.returned (.bool (cE rs ns S f i))/\aa (fun _=>False) w w'
theorem Yw {base gb:Nat}{rv:Value}{P:List Nat}{ρ:Nat->Int}{rs:List Rl}{ns:List Nd}{S:Nat->Bool}{f:Nat}(IH:md base gb rv P ρ rs ns S f)(i kb:Nat)(w:World)(hf:i<f)(hi:i<ns.length)(hG:Gm w base gb rv P ρ rs ns)(hk:w.heap[kb]?=some (.cells (em S) 205)):
  Calls Tryz.prog 168 #[.pointer (some ⟨P.getD i 0,0,none⟩),.pointer (some ⟨kb,0,none⟩)] w fun e w'=>e=.returned (.bool (cE rs ns S f i))/\aa (fun _=>False) w w':=by
 have Ql:=IH i w hf hi hG
 obtain⟨c0,c1,c2,c3,c4,c5,c6,c7⟩:=gE hk
 unfold em at Ql
 generalize P.getD i 0=pi at *
 generalize cE rs ns S f i=ce at *
 clear IH hG
 go_enter Tryz.func168,Tryz.ntmps168
 go_wp2_with fail
 refine Ql.mono ?_
 rintro e w1 ⟨rfl,hK⟩
 go_wp2
 go_ret
 exact⟨rfl,hK⟩
theorem qbU {base gb:Nat}{rv:Value}{P:List Nat}{ρ:Nat->Int}{rs:List Rl}{ns:List Nd}{S:Nat->Bool}{f:Nat}(IH:md base gb rv P ρ rs ns S f)(i kb k5:Nat)(w:World)(hf:i<f)(hi:i<ns.length)(hG:Gm w base gb rv P ρ rs ns)(hk:w.heap[kb]?=some (.cells (em S) 205))(h5:w.heap[k5]?=some (.cells #[.func (.func 168) #[] #[.pointer (some ⟨kb,0,none⟩)]] 267)):
  Calls Tryz.prog 169 #[.pointer (some ⟨P.getD i 0,0,none⟩),.pointer (some ⟨k5,0,none⟩)] w fun e w'=>e=.returned (.bool (!cE rs ns S f i))/\aa (fun _=>False) w w':=by
 have Ql:=Yw IH i kb w hf hi hG hk
 have Ce:w.cell? ⟨k5,0,none⟩=some (.func (.func 168) #[] #[.pointer (some ⟨kb,0,none⟩)]):=by simp[World.cell?,h5]
 generalize P.getD i 0=pi at *
 generalize cE rs ns S f i=ce at *
 clear IH hG hk h5
 go_enter Tryz.func169,Tryz.ntmps169
 go_wp2_with fail
 refine Ql.mono ?_
 rintro e w1 ⟨rfl,hK⟩
 go_wp2
 go_ret
 exact⟨rfl,hK⟩
theorem oP {w:World}{k:Nat}{a r t z:Int}{tx:ByteArray}{vR vP:Value}(h:w.heap[k]?=some (.cells (Fx a r t z tx vR vP) 203)):w.cell? ⟨k,0,none⟩=some (.int .i64 a)/\w.cell? ⟨k,1,none⟩=some (.int .i64 r)/\w.cell? ⟨k,4,none⟩=some (.string tx)/\w.cell? ⟨k,6,none⟩=some vP:=by
 refine⟨?_,?_,?_,?_⟩ <;> simp[World.cell?,h,Fx]
theorem CO {N:Nd}{q:Bool}{f:Nat->Bool}(h:N.kind=4\/N.kind=8):eV N q f=N.subs.any f:=by
 unfold eV;rw[if_neg (by omega),if_neg (by omega),if_neg (by omega),if_pos h]
theorem Jy {N:Nd}{q:Bool}{f:Nat->Bool}(h:N.kind=5):eV N q f=!N.subs.any (fun j=>!f j):=by
 unfold eV;rw[if_neg (by omega),if_neg (by omega),if_neg (by omega),if_neg (by omega),if_pos h]
 rw[List.not_any_eq_all_not];simp
theorem te {N:Nd}{q:Bool}{f:Nat->Bool}(h:N.kind=6\/N.kind=7\/N.kind=9\/N.kind=10):eV N q f=true:=by
 unfold eV;rw[if_neg (by omega),if_neg (by omega),if_pos h]
theorem Ev {N:Nd}{q:Bool}{f:Nat->Bool}(h:N.kind=3):eV N q f=q:=by
 unfold eV;rw[if_neg (by omega),if_pos h]
theorem RL {N:Nd}{q:Bool}{f:Nat->Bool}(h:N.kind=0):eV N q f=N.text.isEmpty:=by
 unfold eV;rw[if_pos h]
theorem Ew {N:Nd}{q:Bool}{f:Nat->Bool}(h:N.kind=1\/N.kind=2):eV N q f=false:=by
 unfold eV;rw[if_neg (by omega),if_neg (by omega),if_neg (by omega),if_neg (by omega),if_neg (by omega)]
theorem yW {base gb:Nat}{rv:Value}{P:List Nat}{ρ:Nat->Int}{rs:List Rl}{ns:List Nd}{S:Nat->Bool}{f:Nat}(hW:lK ns rs)(hN:∀N∈ns,N.kind=3->(dg rs N.name).isSome=true)(hρ:∀i,i<ns.length->(ap ns i).kind=3->ρ i=(dI rs (ap ns i):Int))(hn:ns.length<=5000)(kP:∀i,i<ns.length->(ap ns i).subs.length<=9223372036854775807)(IH:md base gb rv P ρ rs ns S f):md base gb rv P ρ rs ns S (f+1):=by
 intro i w hf hi hG
 have hmf:∀(fn:Fn) (first cap:Array Value) (w:World),(Instr.makeFunc fn first cap).run Tryz.prog w=.ok (.func fn first cap) w:=fun _ _ _ _=>rfl
 obtain⟨z,vR,vP,ia,_,_,_,ke,_⟩:=hG.ar.part i hi
 have dL:=hG.ar.sub i hi
 have iJ:=be hW.wf hi
 have Co:=hρ i hi
 have rz:=fun h=>gJ hN hi h
 have KX:=kP i hi
 rw[<-bA hi]at ia ke dL
 have ZA:cE rs ns S (f+1) i=eV (ap ns i) (S (dI rs (ap ns i))) (cE rs ns S f):=rfl
 obtain⟨p0,p1,p4,p6⟩:=oP ia
 rw[ZA]
 generalize jo:ap ns i=N at *
 generalize P.getD i 0=pi at *
 have sn:=ag (show ai w pi=_ from ia)
 have XT:pi≠w.heap.size:=by omega
 have AR:pi≠w.heap.size+1:=by omega
 clear ZA hρ jo
 have xl:∀W,aa (fun _=>False) ((w.alloc (.cells (em S) 205)).alloc (.cells #[.func (.func 168) #[] #[.pointer (some ⟨w.heap.size,0,none⟩)]] 267)) W->Calls Tryz.prog 148 #[vP,.func (.func 168) #[] #[.pointer (some ⟨w.heap.size,0,none⟩)]] W fun e w'=>e=.returned (.bool (N.subs.any (cE rs ns S f)))/\aa (fun _=>False) W w':=by
  intro W hK
  have qZ:aa (fun _=>False) w W:=(((aa.refl _ w).alloc _).alloc _).trans hK
  refine CL base vP P N.subs (cE rs ns S f) w.heap.size W (aC ke qZ (fun _ _ h=>h)) KX (fun q hq wx vU=>?_)
  have bj:=iJ.low _ (py hq)
  refine Yw IH _ _ wx (by omega) (by omega) (hG.same (qZ.trans vU)) ?_
  rw[vU.block _ (by have:=hK.size;simp at this;omega) (fun h=>h),hK.block _ (by simp;omega) (fun h=>h),Below.heap_alloc _ _ _ (by simp)]
  exact heap_alloc_new _ _
 have uv:∀W,aa (fun _=>False) ((w.alloc (.cells (em S) 205)).alloc (.cells #[.func (.func 168) #[] #[.pointer (some ⟨w.heap.size,0,none⟩)]] 267)) W->Calls Tryz.prog 148 #[vP,.func (.func 169) #[] #[.pointer (some ⟨w.heap.size+1,0,none⟩)]] W fun e w'=>e=.returned (.bool (N.subs.any (fun j=>!cE rs ns S f j)))/\aa (fun _=>False) W w':=by
  intro W hK
  have qZ:aa (fun _=>False) w W:=(((aa.refl _ w).alloc _).alloc _).trans hK
  refine CM base vP P N.subs (fun j=>!cE rs ns S f j) (w.heap.size+1) W (aC ke qZ (fun _ _ h=>h)) KX (fun q hq wx vU=>?_)
  have bj:=iJ.low _ (py hq)
  refine qbU IH _ w.heap.size _ wx (by omega) (by omega) (hG.same (qZ.trans vU)) ?_ ?_
  ·rw[vU.block _ (by have:=hK.size;simp at this;omega) (fun h=>h),hK.block _ (by simp;omega) (fun h=>h),Below.heap_alloc _ _ _ (by simp)]
   exact heap_alloc_new _ _
  ·rw[vU.block _ (by have:=hK.size;simp at this;omega) (fun h=>h),hK.block _ (by simp) (fun h=>h)]
   have:=heap_alloc_new (w.alloc (.cells (em S) 205)) (.cells #[.func (.func 168) #[] #[.pointer (some ⟨w.heap.size,0,none⟩)]] 267)
   simpa using this
 have qZ:aa (fun _=>False) w ((w.alloc (.cells (em S) 205)).alloc (.cells #[.func (.func 168) #[] #[.pointer (some ⟨w.heap.size,0,none⟩)]] 267)):=((aa.refl _ w).alloc _).alloc _
 obtain⟨pv,cv,xw⟩:=an ke
 subst xw
 have xo:=iJ.kind
 unfold em at *
 clear ke hG IH ia dL
 rcases(show N.kind=0\/N.kind=1\/N.kind=2\/N.kind=3\/N.kind=4\/N.kind=5\/N.kind=6\/N.kind=7\/N.kind=8\/N.kind=9\/N.kind=10 by omega) with h | h | h | h | h | h | h | h | h | h | h
 ·rw[h,show cu 0=1 from rfl]at p0
  have HV:=ae (RL (q:=S (dI rs N)) (f:=cE rs ns S f) h)
  clear xl uv rz Co h
  go_enter Tryz.func145,Tryz.ntmps145
  go_wp2
  go_ret
  refine⟨?_,qZ⟩
  rw[HV.out]
  show Ending.returned (Value.bool (ba N.text).toList.isEmpty)=_
  rw[dS]
 ·rw[h,show cu 1=2 from rfl]at p0
  have HV:=ae (Ew (q:=S (dI rs N)) (f:=cE rs ns S f) (.inl h))
  clear xl uv rz Co h
  go_enter Tryz.func145,Tryz.ntmps145
  go_wp2
  go_ret
  exact⟨by rw[HV.out];rfl,qZ⟩
 ·rw[h,show cu 2=3 from rfl]at p0
  have HV:=ae (Ew (q:=S (dI rs N)) (f:=cE rs ns S f) (.inr h))
  clear xl uv rz Co h
  go_enter Tryz.func145,Tryz.ntmps145
  go_wp2
  go_ret
  exact⟨by rw[HV.out];rfl,qZ⟩
 ·rw[h,show cu 3=0 from rfl]at p0
  have HV:=ae (Ev (q:=S (dI rs N)) (f:=cE rs ns S f) h)
  have h8:dI rs N<8:=by have:=rz h;have:=hW.len;omega
  rw[Co h]at p1
  clear xl uv rz Co h
  generalize dI rs N=r at *
  rcases(show r=0\/r=1\/r=2\/r=3\/r=4\/r=5\/r=6\/r=7 by omega) with e | e | e | e | e | e | e | e
  all_goals
   subst e
   go_enter Tryz.func145,Tryz.ntmps145
   go_wp2
   go_ret
   exact⟨by rw[HV.out];rfl,qZ⟩
 ·rw[h,show cu 4=4 from rfl]at p0
  have HV:=ae (CO (q:=S (dI rs N)) (f:=cE rs ns S f) (.inl h))
  generalize N.subs.any (cE rs ns S f)=gv at *
  clear uv rz Co h
  go_enter Tryz.func145,Tryz.ntmps145
  go_wp2_with fail
  go_region_with (first | (go_at_call 148;refine(xl _ (by first | exact aa.refl _ _ | exact(aa.refl _ _).drew | exact(aa.refl _ _).drewN _)).mono ?_;rintro e w7 ⟨rfl,eE⟩))
  all_goals
   go_wp2
   go_ret
   exact⟨by rw[HV.out];rfl,(qZ.drew).trans eE⟩
 ·rw[h,show cu 5=5 from rfl]at p0
  have HV:=ae (Jy (q:=S (dI rs N)) (f:=cE rs ns S f) h)
  generalize N.subs.any (fun j=>!cE rs ns S f j)=gv at *
  clear xl rz Co h
  go_enter Tryz.func145,Tryz.ntmps145
  go_wp2_with fail
  refine(uv _ (aa.refl _ _)).mono ?_
  rintro e w7 ⟨rfl,eE⟩
  go_wp2
  go_ret
  exact⟨by rw[HV.out];rfl,qZ.trans eE⟩
 ·rw[h,show cu 6=6 from rfl]at p0
  have HV:=ae (te (q:=S (dI rs N)) (f:=cE rs ns S f) (by omega:N.kind=6\/N.kind=7\/N.kind=9\/N.kind=10))
  clear xl uv rz Co h
  go_enter Tryz.func145,Tryz.ntmps145
  go_wp2
  go_ret
  exact⟨by rw[HV.out];rfl,qZ⟩
 ·rw[h,show cu 7=7 from rfl]at p0
  have HV:=ae (te (q:=S (dI rs N)) (f:=cE rs ns S f) (by omega:N.kind=6\/N.kind=7\/N.kind=9\/N.kind=10))
  clear xl uv rz Co h
  go_enter Tryz.func145,Tryz.ntmps145
  go_wp2
  go_ret
  exact⟨by rw[HV.out];rfl,qZ⟩
 ·rw[h,show cu 8=8 from rfl]at p0
  have HV:=ae (CO (q:=S (dI rs N)) (f:=cE rs ns S f) (.inr h))
  generalize N.subs.any (cE rs ns S f)=gv at *
  clear uv rz Co h
  go_enter Tryz.func145,Tryz.ntmps145
  go_wp2_with fail
  go_region_with (first | (go_at_call 148;refine(xl _ (by first | exact aa.refl _ _ | exact(aa.refl _ _).drew | exact(aa.refl _ _).drewN _)).mono ?_;rintro e w7 ⟨rfl,eE⟩))
  all_goals
   go_wp2
   go_ret
   exact⟨by rw[HV.out];rfl,(qZ.drew).trans eE⟩
 ·rw[h,show cu 9=9 from rfl]at p0
  have HV:=ae (te (q:=S (dI rs N)) (f:=cE rs ns S f) (by omega:N.kind=6\/N.kind=7\/N.kind=9\/N.kind=10))
  clear xl uv rz Co h
  go_enter Tryz.func145,Tryz.ntmps145
  go_wp2
  go_ret
  exact⟨by rw[HV.out];rfl,qZ⟩
 ·rw[h,show cu 10=10 from rfl]at p0
  have HV:=ae (te (q:=S (dI rs N)) (f:=cE rs ns S f) (by omega:N.kind=6\/N.kind=7\/N.kind=9\/N.kind=10))
  clear xl uv rz Co h
  go_enter Tryz.func145,Tryz.ntmps145
  go_wp2
  go_ret
  exact⟨by rw[HV.out];rfl,qZ⟩
theorem iS {base gb:Nat}{rv:Value}{P:List Nat}{ρ:Nat->Int}{rs:List Rl}{ns:List Nd}{S:Nat->Bool}(hW:lK ns rs)(hN:∀N∈ns,N.kind=3->(dg rs N.name).isSome=true)(hρ:∀i,i<ns.length->(ap ns i).kind=3->ρ i=(dI rs (ap ns i):Int))(hn:ns.length<=5000)(kP:∀i,i<ns.length->(ap ns i).subs.length<=9223372036854775807):∀f,md base gb rv P ρ rs ns S f
 | 0=>fun i w hf=>absurd hf (by omega)
 | f+1=>yW hW hN hρ hn kP (iS hW hN hρ hn kP f)
end Go.Proofs.YtagklnaaoclmhaaGreatDoor
