import Derived.Test.YtagklnaaoclmhaaGreatDoorMnAI
import Derived.Laws.OwnMore
set_option linter.unusedSimpArgs false
set_option linter.unusedVariables false
set_option maxRecDepth 100000
set_option maxHeartbeats 16000000
namespace Go.Proofs.YtagklnaaoclmhaaGreatDoor
open Go.RowKit
theorem O4 {P:List Nat}{ms:List Mn}(h:∀m∈ms,∀i,m.part=some i->i<P.length)(l:List Nat):ms.flatMap (Cq (P++l))=ms.flatMap (Cq P):=by
 have:∀m∈ms,Cq (P++l) m=Cq P m:=by
  intro m hm
  unfold Cq
  cases hp:m.part with
  | none=>rfl
  | some i=>simp only[Option.map_some];rw[bo (h m hm i hp)]
 simp only[List.flatMap_def]
 rw[List.map_congr_left this]
theorem CR.only {w w':World}{base b:Nat}{s:ByteArray}{mv:Mv}{T:Nat->Prop}{P:List Nat}{ms:List Mn}{A:St}(h:CR w base b s mv T P ms A)(hk:aa (·=b) w w'){g:Sc}(hR:dT w' b s mv g)(ht:g.t<=40):CR w' base b s mv T P ms { A with sc:=g }:=
 ⟨hR,aC h.own hk (fun i hi e=>h.nb (by rw[hi,e])),h.nb,h.ar.kept hk (fun _ _ x=>x.1) (fun _ _ x=>x),fun k fU=>Nat.lt_of_lt_of_le (h.told k fU) hk.size,h.mlt,h.bb,ht,h.mlen,h.bk.kept h.ar hk (fun _ _ x=>x.1)⟩
theorem CR.lt {w:World}{base b:Nat}{s:ByteArray}{mv:Mv}{T:Nat->Prop}{P:List Nat}{ms:List Mn}{A:St}(h:CR w base b s mv T P ms A):b<w.heap.size:=h.ris.lt
theorem CR.add {w:World}{base b:Nat}{s:ByteArray}{mv:Mv}{T:Nat->Prop}{P:List Nat}{ms:List Mn}{A:St}(h:CR w base b s mv T P ms A)(N:Nd){vR vP:Value}
  (h1:w.ownsRow base 321 2 vR N.rng.length (N.rng.flatMap Ho)) (h2:∀j,vR.ownBlock=some j->j≠b/\mv.v.ownBlock≠some j/\¬T j)
  (h3:w.ownsRow base 187 1 vP N.subs.length (N.subs.map (aO P))) (h4:∀j,vP.ownBlock=some j->j≠b/\mv.v.ownBlock≠some j/\¬T j) (hs:∀j∈N.subs,j<A.ns.length) (hs4:∀j∈N.subs,(A.ns.getD j cj).kind=4->P.getD j 0∈mv.L):
  CR (w.alloc (.cells (T1 (cu N.kind) 0 (N.term:Int) (ba N.text) vR vP) 203)) base b s mv T (P++[w.heap.size]) ms { A with ns:=A.ns++[N] }:=by
 have hk:aa (fun _=>False) w (w.alloc (.cells (T1 (cu N.kind) 0 (N.term:Int) (ba N.text) vR vP) 203)):=(aa.refl _ _).alloc _
 have hb:=h.lt
 refine⟨h.ris.alloc _,?_,h.nb,?_,fun k fU=>Nat.lt_of_lt_of_le (h.told k fU) hk.size,fun m hm i hi=>by have:=h.mlt m hm i hi;simp;omega,h.bb,h.t40,by have:=h.mlen;simp;omega,(h.bk.kept h.ar hk (fun _ _ _ x=>x)).push h.ar.len h.ar.sub _ _ (fun j hj=>⟨hs j hj,hs4 j hj⟩)⟩
 ·rw[O4 h.mlt];exact h.own.alloc _
 ·refine(h.ar.kept hk (fun _ _ _ x=>x) (fun _ _ x=>x)).push ⟨0,vR,vP,heap_alloc_new _ _,⟨by omega,fun hx=>?_,fun hx=>Nat.lt_irrefl _ (h.told _ hx)⟩,h1.alloc _,h2,h3.alloc _,h4⟩ hs (fun hx=>Nat.lt_irrefl _ (h.ar.lt _ hx)) (by have:=h.bb;omega)
  have:=(h.own.lt _ hx).2;omega
theorem CR.setBrk {w:World}{base b:Nat}{s:ByteArray}{mv:Mv}{T:Nat->Prop}{P:List Nat}{ms:List Mn}{A:St}(h:CR w base b s mv T P ms A){x:Nat}(hx:x<A.ns.length)(hL:P.getD x 0 ∉ mv.L):CR ((w.setCell ⟨P.getD x 0,3,none⟩ (.int .i64 (mv.L.length:Int))).setCell ⟨b,3,none⟩ (.int .i64 ((mv.L.length:Int)+1))) base b s ⟨mv.v,mv.L++[P.getD x 0]⟩ T P ms A:=by
 obtain⟨z,hz⟩:∃z:Int,z=(mv.L.length:Int):=⟨_,rfl⟩
 rw[<-hz]
 obtain⟨z0,vR,vP,h1,h2,_⟩:=h.ar.part x hx
 have hk:aa (·=P.getD x 0) w (w.setCell ⟨P.getD x 0,3,none⟩ (.int .i64 z)):=(aa.refl (·=P.getD x 0) w).setCell (p:=⟨P.getD x 0,3,none⟩) (fun _=>rfl) _
 have Nl:∀(e size n:Nat) (v:Value) (xs:List Value),e≠203->w.ownsRow base e size v n xs->v.ownBlock≠some (P.getD x 0):=by
  intro e size n v xs he ho hv
  obtain⟨c,hc⟩:=ak ho hv
  rw[show ai w (P.getD x 0)=_ from h1]at hc
  simp at hc
  exact he hc.2.symm
 have co:aa (·=b) (w.setCell ⟨P.getD x 0,3,none⟩ (.int .i64 z)) ((w.setCell ⟨P.getD x 0,3,none⟩ (.int .i64 z)).setCell ⟨b,3,none⟩ (.int .i64 (z+1))):=(aa.refl (·=b) _).setCell (p:=⟨b,3,none⟩) (fun _=>rfl) _
 have dP:=(h.ris.kept hk (fun e=>h2.1 e.symm)).setB (P.getD x 0)
 rw[<-hz]at dP
 have hAr:Ar (w.setCell ⟨P.getD x 0,3,none⟩ (.int .i64 z)) base (fun k=>k≠b/\mv.v.ownBlock≠some k/\¬T k) P (fun _=>0) A.ns:=⟨h.ar.len,h.ar.sub,fun i hi=>?_,h.ar.nd,h.ar.low⟩
 ·refine⟨dP,aC (aC h.own hk (fun i hi e=>h2.2.1 (by rw[<-e];exact hi))) co (fun i hi e=>h.nb (by rw[<-e];exact hi)),h.nb,hAr.kept co (fun _ _ x=>x.1) (fun _ _ x=>x),fun k fU=>by have:=h.told k fU;simpa using this,h.mlt,h.bb,h.t40,h.mlen,?_⟩
  refine Bk.kept (S:=fun k=>k≠b/\mv.v.ownBlock≠some k/\¬T k) ⟨fun k fU=>?_,fun i hi j hj fU=>List.mem_append_left _ (h.bk.sub i hi j hj fU)⟩ hAr co (fun _ _ x=>x.1)
  by_cases uz:k<mv.L.length
  ·simp only[List.getElem_append_left uz]
   refine⟨(h.bk.num k uz).1,?_⟩
   rw[<-(h.bk.num k uz).2]
   have eW:mv.L[k]≠P.getD x 0:=fun e=>hL (e ▸ List.getElem_mem uz)
   have:=hk.block mv.L[k] (h.bk.le h.ar _ (List.getElem_mem uz)) eW
   simp only[World.cell?,this]
  ·have On:k=mv.L.length:=by simp at fU;omega
   subst On
   simp only[List.getElem_append_right (Nat.le_refl _),Nat.sub_self,List.getElem_cons_zero]
   refine⟨?_,?_⟩
   ·have:x<P.length:=by rw[h.ar.len];exact hx
    simp[List.getD,List.getElem?_eq_getElem this]
   ·rw[<-hz]
    simp only[World.cell?,aj h1];simp[Fx]
 obtain⟨z1,vR1,vP1,g1,g2,g3,g4,g5,g6⟩:=h.ar.part i hi
 by_cases he:P.getD i 0=P.getD x 0
 ·refine⟨z,vR1,vP1,?_,g2,aC g3 hk (fun j hj e=>Nl _ _ _ _ _ (by decide) g3 (by rw[hj,e])),g4,aC g5 hk (fun j hj e=>Nl _ _ _ _ _ (by decide) g5 (by rw[hj,e])),g6⟩
  rw[<-he,aj g1]
  simp[Fx]
 ·refine⟨z1,vR1,vP1,?_,g2,aC g3 hk (fun j hj e=>Nl _ _ _ _ _ (by decide) g3 (by rw[hj,e])),g4,aC g5 hk (fun j hj e=>Nl _ _ _ _ _ (by decide) g5 (by rw[hj,e])),g6⟩
  rw[Below.heap_setCell _ _ _ _ (show P.getD i 0≠_ from he)];exact g1
theorem TT {w:World}{base base' e size n:Nat}{v:Value}{xs:List Value}(h:w.ownsRow base e size v n xs)(hb:base'<=base):w.ownsRow base' e size v n xs:=by
 refine⟨h.1,?_⟩
 rcases h.2 with hv | ⟨g,cap,gz,hv,hg,rest⟩
 ·exact .inl hv
 ·exact .inr ⟨g,cap,gz,hv,Nat.le_trans hb hg,rest⟩
structure jh (base b:Nat)(s:ByteArray)(mv:Mv)(T:Nat->Prop)(P:List Nat)(ms:List Mn)(A:St)(w:World)(X:St × Nat)(e:Ending)(w':World):Prop where
 ok:X.1.sc.bad<0->∃mv' P2 l,e=.returned (.tuple #[aO (P++P2) X.2,.bool true])/\X.1.ns=A.ns++l/\CR w' base b s mv' T (P++P2) (ms++l6 A.ns.length l) X.1/\Cs b mv mv' w w'/\X.2<X.1.ns.length/\((X.1.ns.getD X.2 cj).kind=4->(P++P2).getD X.2 0∈mv'.L)
 no:0<=X.1.sc.bad->∃v,e=.returned (.tuple #[v,.bool false])/\tI w w' b s mv X.1.sc.bad
theorem OY {s:ByteArray}{g:Sc}(h:0<=g.bad):(qB s g).2.bad=g.bad:=by unfold qB;rw[Bb h];rfl
theorem Ps {s:ByteArray}{g:Sc}(h:0<=g.bad):(set s g).2.bad=g.bad:=by unfold set;rw[BF h];rfl
theorem Mf {g:Sc}(h:g.t≠40):tm g={ g with at_:=g.at_+1,t:=g.t+1 }:=by unfold tm;rw[if_neg h];rfl
theorem Uf {g:Sc}(h:g.t=40)(hb:g.bad<0):(tm g).bad=g.at_:=by unfold tm;rw[if_pos h,gO hb];rfl
def ID (s:ByteArray)(A:St):St × Nat:=
 if pk s A.sc=46 then aP { A with sc:=tm A.sc } { cj with kind:=2,term:=A.sc.t }
 else if pk s A.sc=39 then aP { A with sc:=(qB s (tm A.sc)).2 } { cj with kind:=0,text:=(qB s (tm A.sc)).1,term:=A.sc.t }
 else aP { A with sc:=(set s (tm A.sc)).2 } { cj with kind:=1,rng:=(set s (tm A.sc)).1,term:=A.sc.t }
theorem pQ {o:Nat}{N:Nd}(h:N.kind≠3):l6 o [N]=[]:=by simp[l6,h]
theorem jh.one {w w':World}{base b:Nat}{s:ByteArray}{mv:Mv}{T:Nat->Prop}{P:List Nat}{ms:List Mn}{A:St}{N:Nd}{g:Sc}{k:Nat}{e:Ending}(hg:g.bad<0)(ff:N.kind≠3)(lc:N.kind≠4)(hl:P.length=A.ns.length)
  (hC:CR w' base b s mv T (P++[k]) ms ⟨g,A.ns++[N]⟩) (hS:Cs b mv mv w w') (he:e=.returned (.tuple #[.pointer (some ⟨k,0,none⟩),.bool true])):jh base b s mv T P ms A w (aP { A with sc:=g } N) e w':=by
 refine⟨fun _=>⟨mv,[k],[N],?_,rfl,?_,hS,by simp[aP],?_⟩,fun h=>absurd (show 0<=g.bad from h) (by omega)⟩
 ·rw[he];unfold aO aP;simp only;rw[cn (by omega),hl];simp
 ·rw[pQ ff,List.append_nil];exact hC
 ·intro h4;exact absurd (by simpa [aP] using h4) lc
theorem Hy (base b:Nat)(s:ByteArray)(mv:Mv)(T:Nat->Prop)(P:List Nat)(ms:List Mn)(A:St)(w:World)(hC:CR w base b s mv T P ms A)(hs:s.size<=400)(hi:Iv s A.sc)(hb:A.sc.bad<0)
  (hp:pk s A.sc=46\/pk s A.sc=39\/pk s A.sc=91):
  Calls Tryz.prog 202 #[.pointer (some ⟨b,0,none⟩)] w fun e w'=>jh base b s mv T P ms A w (ID s A) e w':=by
 obtain⟨c0,c1,c2,c3,c4⟩:=hC.ris.cells
 have hf:=hC.ris.frozen 2
 have ht:=hC.t40
 by_cases qs:A.sc.t=40
 ·have HB:Hid ((ID s A).1.sc.bad=A.sc.at_):=by
   have h1:=Uf qs hb
   unfold Hid ID
   split
   ·exact h1
   ·split
    ·show (qB s (tm A.sc)).2.bad=_
     rw[OY (by omega)];exact h1
    ·show (set s (tm A.sc)).2.bad=_
     rw[Ps (by omega)];exact h1
  go_enter Tryz.func202,Tryz.ntmps202
  go_wp2
  go_ret2
  exact⟨fun h=>absurd h (by rw[HB.out];omega),fun _=>⟨_,rfl,mv,A.sc,hC.ris,by rw[HB.out],Cs.refl _ _ _⟩⟩
 ·have hT:=Mf qs
  have Nq:((A.sc.t:Int) == 40)=false:=beq_eq_false_iff_ne.2 (by omega)
  have jM:dT (w.setCell ⟨b,2,none⟩ (.int .i64 ((A.sc.t+1:Nat):Int))) b s mv { A.sc with t:=A.sc.t+1 }:=hC.ris.setT _
  have se:=hC.only ((aa.refl (·=b) w).setCell (p:=⟨b,2,none⟩) (fun _=>rfl) (.int .i64 ((A.sc.t+1:Nat):Int))) jM (show A.sc.t+1<=40 by omega)
  have dd:aa (·=b) w (w.setCell ⟨b,2,none⟩ (.int .i64 ((A.sc.t+1:Nat):Int))):=(aa.refl (·=b) w).setCell (p:=⟨b,2,none⟩) (fun _=>rfl) _
  obtain⟨g1,yE⟩:∃g1,g1=({ A.sc with t:=A.sc.t+1 }:Sc):=⟨_,rfl⟩
  rw[<-yE]at jM se
  have dE:g1.bad<0:=by rw[yE];exact hb
  have UI:g1.at_<=s.size:=by rw[yE];exact hi.1 hb
  have oW:pk s g1=pk s A.sc:=by rw[yE];rfl
  have Cg:g1.t<=40:=by rw[yE];show A.sc.t+1<=40;omega
  have HT:Hid (tm A.sc=bM g1):=by unfold Hid;rw[hT,yE];rfl
  have bj:g1.at_<s.size:=by rw[yE];exact(cT (s:=s) (g:=A.sc) (by omega)).2.1
  have Ci:Iv s (bM g1):=⟨fun _=>by rw[bZ];omega,by rw[bZ];omega⟩
  have ju:=pU (s:=s) dE UI (c:=39) (by decide)
  have EZ:=pU (s:=s) dE UI (c:=91) (by decide)
  have QC:=pU (s:=s) dE UI (c:=46) (by decide)
  rw[oW]at ju EZ QC
  clear hT oW yE
  have eI:=hC.ar.len
  have gV:base<=w.heap.size:=by have:=hC.bb;have:=hC.lt;omega
  go_enter Tryz.func202,Tryz.ntmps202
  go_wp2_with fail
  refine(fX b s mv g1 39 _ jM hs UI (by decide)).mono ?_
  rintro e w2 ⟨rfl,dP,dl⟩
  have C0:=dd.trans dl
  have iz:=C0.size
  by_cases h39:pk s A.sc=39
  ·rw[h39]at ju
   have hq:sy s g1 39=true:=by rw[ju];rfl
   have HX:Hid (ID s A=aP { A with sc:=(qB s (bM g1)).2 } { cj with kind:=0,text:=(qB s (bM g1)).1,term:=A.sc.t }):=by
    unfold Hid ID;rw[if_neg (by omega),if_pos h39,HT.out]
   have C1:dT w2 b s mv (bM g1):=by unfold tk at dP;rw[hq]at dP;exact dP
   rw[hq]
   clear ju EZ QC hq dP h39 hp HT
   go_wp2_with fail
   refine(Be b s mv (bM g1) _ C1 hs Ci dE).mono ?_
   rintro e w3 ⟨⟨tx,rfl,Dp⟩,hE,eU⟩
   have nO:=C0.trans eU
   have Ox:=(rC Ci (by rw[bZ];omega)).2.2.2.1
   rw[wO]at Ox
   generalize qB s (bM g1)=LL at *
   obtain⟨l,g3⟩:=LL
   dsimp only at *
   cases iy:decide (g3.bad<0)
   ·have dY:0<=g3.bad:=by simpa using iy
    obtain⟨g4,fo,h4⟩:=hE.bad dY
    go_wp2
    go_ret2
    rw[HX.out]
    exact⟨fun h=>absurd (show g3.bad<0 from h) (by omega),fun _=>⟨_,rfl,mv,g4,fo.alloc _,h4,Cs.only (nO.alloc _)⟩⟩
   ·have dY:g3.bad<0:=by simpa using iy
    have ht:=Dp dY
    subst ht
    have qY:=hC.only nO (hE.good dY) (by omega)
    have CX:=qY.add { cj with kind:=0,text:=l,term:=A.sc.t } (World.ownsRow_nil _ _ _ _) (by simp[Value.ownBlock]) (World.ownsRow_nil _ _ _ _) (by simp[Value.ownBlock]) (by simp[cj]) (by simp[cj])
    go_wp2
    go_ret2
    rw[HX.out]
    exact jh.one dY (by simp[cj]) (by simp[cj]) eI CX (Cs.only (nO.alloc _)) rfl
  ·have hq:sy s g1 39=false:=by rw[ju];simpa using h39
   have C1:dT w2 b s mv g1:=by unfold tk at dP;rw[hq]at dP;exact dP
   rw[hq]
   clear ju hq dP
   go_wp2_with fail
   refine(fX b s mv g1 91 _ C1 hs UI (by decide)).mono ?_
   rintro e w3 ⟨rfl,nh,eU⟩
   have nO:=C0.trans eU
   have hz3:=nO.size
   by_cases h91:pk s A.sc=91
   ·rw[h91]at EZ
    have hq:sy s g1 91=true:=by rw[EZ];rfl
    have HX:Hid (ID s A=aP { A with sc:=(set s (bM g1)).2 } { cj with kind:=1,rng:=(set s (bM g1)).1,term:=A.sc.t }):=by
     unfold Hid ID;rw[if_neg (by omega),if_neg (by omega),HT.out]
    have R9:dT w3 b s mv (bM g1):=by unfold tk at nh;rw[hq]at nh;exact nh
    rw[hq]
    clear EZ QC hq nh h39 h91 hp HT
    go_wp2_with fail
    refine(DI b s mv (bM g1) _ R9 hs Ci dE).mono ?_
    rintro e w4 ⟨⟨v,rfl,hv,jH⟩,hE,eK⟩
    have yy:=nO.trans eK
    have Ox:=(rM Ci (by rw[bZ];omega)).2.2.2.1
    rw[wO]at Ox
    generalize set s (bM g1)=LL at *
    obtain⟨l,g3⟩:=LL
    dsimp only at *
    cases iy:decide (g3.bad<0)
    ·have dY:0<=g3.bad:=by simpa using iy
     obtain⟨g4,fo,h4⟩:=hE.bad dY
     have ZQ:=jH dY
     subst ZQ
     go_wp2_with fail
     refine(r9 _ _ _ _ _).mono ?_
     rintro e w5 ⟨rfl,rfl⟩
     go_wp2
     go_ret2
     rw[HX.out]
     exact⟨fun h=>absurd (show g3.bad<0 from h) (by omega),fun _=>⟨_,rfl,mv,g4,fo.alloc _,h4,Cs.only (yy.alloc _)⟩⟩
    ·have dY:g3.bad<0:=by simpa using iy
     have bW:=hv dY
     obtain⟨pp,cap,E2⟩:=an bW
     have qY:=hC.only yy (hE.good dY) (by omega)
     have CX:=qY.add { cj with kind:=1,rng:=l,term:=A.sc.t } (TT bW (by omega)) (fun j hj=>by
      have:=(bW.lt j hj).1
      have h5:=hC.lt
      exact⟨by omega,fun hx=>by have:=(hC.own.lt j hx).2;omega,fun hx=>by have:=hC.told j hx;omega⟩) (World.ownsRow_nil _ _ _ _) (by simp[Value.ownBlock]) (by simp[cj]) (by simp[cj])
     subst E2
     go_wp2_with fail
     refine(r9 _ _ _ _ _).mono ?_
     rintro e w5 ⟨rfl,rfl⟩
     go_wp2
     go_ret2
     rw[HX.out]
     exact jh.one dY (by simp[cj]) (by simp[cj]) eI CX (Cs.only (yy.alloc _)) rfl
   ·have yu:pk s A.sc=46:=by omega
    have hq:sy s g1 91=false:=by rw[EZ];simpa using h91
    have R9:dT w3 b s mv g1:=by unfold tk at nh;rw[hq]at nh;exact nh
    rw[hq]
    rw[yu]at QC
    have ki:sy s g1 46=true:=by rw[QC];rfl
    have HX:Hid (ID s A=aP { A with sc:=bM g1 } { cj with kind:=2,term:=A.sc.t }):=by
     unfold Hid ID;rw[if_pos yu,HT.out]
    clear EZ QC hq nh h39 h91 hp HT
    have qY:=hC.only nO R9 Cg
    have CX:=qY.add { cj with kind:=2,term:=A.sc.t } (World.ownsRow_nil _ _ _ _) (by simp[Value.ownBlock]) (World.ownsRow_nil _ _ _ _) (by simp[Value.ownBlock]) (by simp[cj]) (by simp[cj])
    go_wp2_with fail
    refine(fX b s mv g1 46 _ CX.ris hs UI (by decide)).mono ?_
    rintro e w5 ⟨rfl,fJ,gR⟩
    have qau:dT w5 b s mv (bM g1):=by unfold tk at fJ;rw[ki]at fJ;exact fJ
    have M0:=CX.only gR qau Cg
    rw[ki]
    go_wp2
    go_ret2
    rw[HX.out]
    exact jh.one dE (by simp[cj]) (by simp[cj]) eI M0 (Cs.only ((nO.alloc _).trans gR)) rfl
structure nX (s:ByteArray)(o:Nat)(g:Sc):Prop where
 bad:g.bad<0
 lt:g.at_<s.size
 n32:am s g.at_≠32
 n10:am s g.at_≠10
 n47:am s g.at_≠47
 n41:0<o->am s g.at_≠41
theorem nX.bl {s:ByteArray}{o:Nat}{g:Sc}(h:nX s o g):bl s g=g:=wT (k:=g.at_) (fun _=>rfl) (fun _=>rfl) (fun _ x=>h.n32 x.2)
theorem nX.sgB {s:ByteArray}{o:Nat}{g:Sc}(h:nX s o g){c:Nat}(hc:am s g.at_≠c):il s g c=false:=by
 unfold Go.Proofs.YtagklnaaoclmhaaGreatDoor.il;rw[h.bl];simp[hc]
theorem nX.sg {s:ByteArray}{o:Nat}{g:Sc}(h:nX s o g){c:Nat}(hc:am s g.at_≠c):sg s g c=g:=by
 unfold Go.Proofs.YtagklnaaoclmhaaGreatDoor.sg;rw[h.sgB hc,h.bl];rfl
theorem nX.iv {s:ByteArray}{o:Nat}{g:Sc}(h:nX s o g):Iv s g:=⟨fun _=>Nat.le_of_lt h.lt,by have:=h.lt;omega⟩
structure Vl (base b:Nat)(s:ByteArray)(mv:Mv)(T:Nat->Prop)(P:List Nat)(ms:List Mn)(A:St)(w:World)(X:St × Nat)(e:Ending)(w':World):Prop where
 ok:X.1.sc.bad<0->∃mv' P2 l,e=.returned (.tuple #[aO (P++P2) X.2,.bool true])/\X.1.ns=A.ns++l/\CR w' base b s mv' T (P++P2) (ms++l6 A.ns.length l) X.1/\Cs b mv mv' w w'/\X.2<X.1.ns.length/\(P++P2).getD X.2 0 ∉ mv'.L
 no:0<=X.1.sc.bad->∃v c,e=.returned (.tuple #[v,.bool c])/\∃mv' g',dT w' b s mv' g'/\(g'.at_:Int)=X.1.sc.bad/\Cs b mv mv' w w'/\(c=true->nX s A.sc.op g'/\∃p,v=.pointer p)
structure PI (base b:Nat)(s:ByteArray)(mv:Mv)(T:Nat->Prop)(P:List Nat)(ms:List Mn)(A:St)(w:World)(X:St × Nat)(e:Ending)(w':World):Prop where
 out:Vl base b s mv T P ms A w X e w'
 new:X.1.sc.bad<0->∃k,e=.returned (.tuple #[.pointer (some ⟨k,0,none⟩),.bool true])/\w.heap.size<=k
def ou (F:Nat)(s:ByteArray)(ch:St->St × Nat)(d:Nat):Prop:=∀(base b:Nat) (mv:Mv) (T:Nat->Prop) (P:List Nat) (ms:List Mn) (A:St) (w:World),CR w base b s mv T P ms A->Ok s A->A.sc.bad<0->5<=A.sc.op+d->
 Calls Tryz.prog F #[.pointer (some ⟨b,0,none⟩)] w fun e w'=>PI base b s mv T P ms A w (ch A) e w'
theorem oT (s:ByteArray):∀f i,s.size<=i+f->¬(dh s f i<s.size/\am s (dh s f i)=32)
 | 0,i,h=>by simp only[dh];omega
 | f+1,i,h=>by
  rw[dh]
  split
  ·exact oT s f (i+1) (by omega)
  ·next hn=>exact hn
theorem o8 (s:ByteArray)(g:Sc):bl s (bl s g)=bl s g:=by
 by_cases hb:g.bad<0
 ·have h1:bl s g={ g with at_:=dh s (s.size-g.at_) g.at_ }:=by unfold bl;rw[if_pos hb]
  have:=oT s (s.size-g.at_) g.at_ (by omega)
  exact wT (k:=(bl s g).at_) (fun _=>rfl) (fun _=>rfl) (fun _ x=>by rw[h1]at x;exact this x)
 ·rw[gr (show 0<=g.bad by omega),gr (show 0<=g.bad by omega)]
theorem tI.pre {w w1 w':World}{b:Nat}{s:ByteArray}{mv Fk:Mv}{x:Int}(h:tI w1 w' b s Fk x)(hS:Cs b mv Fk w w1):tI w w' b s mv x:=by
 obtain⟨mv',g',h1,h2,h3⟩:=h
 exact⟨mv',g',h1,h2,hS.trans h3⟩
theorem jh.pre {w w1 w':World}{base b:Nat}{s:ByteArray}{mv:Mv}{T:Nat->Prop}{P:List Nat}{ms:List Mn}{A:St}{g:Sc}{X:St × Nat}{e:Ending}(h:jh base b s mv T P ms { A with sc:=g } w1 X e w')(hS:Cs b mv mv w w1):jh base b s mv T P ms A w X e w':=by
 refine⟨fun hg=>?_,fun hg=>?_⟩
 ·obtain⟨mv',P2,l,h1,h2,h3,h4,h5,h6⟩:=h.ok hg
  exact⟨mv',P2,l,h1,h2,h3,hS.trans h4,h5,h6⟩
 ·obtain⟨v,h1,h2⟩:=h.no hg
  exact⟨v,h1,h2.pre hS⟩
def I2 (s:ByteArray)(ch:St->St × Nat)(A:St):St × Nat:=
 if A.sc.op<5 then ({ (ch { A with sc:=ez A.sc }).1 with sc:=oS (mu s (ch { A with sc:=ez A.sc }).1.sc 41) },(ch { A with sc:=ez A.sc }).2)
 else aP { A with sc:=wr A.sc } cj
theorem z8 {s:ByteArray}{ch:St->St × Nat}{d:Nat}(dH:d=0\/ou 141 s ch (d-1))(fK:d=0\/eN s ch (d-1))(base b:Nat)(mv:Mv)(T:Nat->Prop)(P:List Nat)(ms:List Mn)(A:St)(w:World)(hC:CR w base b s mv T P ms A)(hO:Ok s A)(hb:A.sc.bad<0)(hd:5<=A.sc.op+d)(hp:pk s A.sc=40):
  Calls Tryz.prog 203 #[.pointer (some ⟨b,0,none⟩)] w fun e w'=>jh base b s mv T P ms A w (I2 s ch A) e w':=by
 obtain⟨c0,c1,c2,c3,c4⟩:=hC.ris.cells
 have hs:=hO.size
 have rx:=hO.op
 have Te:=hC.t40
 by_cases h5:A.sc.op<5
 ·have Ke:d≠0:=by omega
  have qaF:=dH.resolve_left Ke
  have Sv:=fK.resolve_left Ke
  have bj:=(cT (s:=s) (g:=A.sc) (by omega)).2.1
  have AD:Iv s (ez A.sc):=⟨fun _=>by simp[ez];omega,by simp[ez];omega⟩
  have ht:=hO.t
  have M3:Ok s { A with sc:=ez A.sc }:=by
   refine⟨AD,by dsimp only[ez];omega,?_,by dsimp only[ez];omega,hs⟩
   have hr:=lv (s:=s) (g:=A.sc) (g':=ez A.sc) hO.iv hb (fun _=>by simp[ez])
   have ia:=hO.pt
   unfold Pt at ia ⊢
   dsimp only at ia ⊢
   omega
  have Xc:5<=(ez A.sc).op+(d-1):=by dsimp only[ez];omega
  have js:=Sv { A with sc:=ez A.sc } AD Xc
  have HX:Hid (I2 s ch A=({ (ch { A with sc:=ez A.sc }).1 with sc:=oS (mu s (ch { A with sc:=ez A.sc }).1.sc 41) },(ch { A with sc:=ez A.sc }).2)):=by unfold Hid I2;rw[if_pos h5]
  have q5:((A.sc.op:Int) == 5)=false:=beq_eq_false_iff_ne.2 (by omega)
  have hq:sy s A.sc 40=true:=by rw[pU hb (hO.iv.1 hb) (by decide),hp];rfl
  go_enter Tryz.func203,Tryz.ntmps203
  go_wp2_with fail
  refine(fX b s mv A.sc 40 _ hC.ris hs (hO.iv.1 hb) (by decide)).mono ?_
  rintro e w1 ⟨rfl,jM,dd⟩
  have Aw:dT w1 b s mv (bM A.sc):=by unfold tk at jM;rw[hq]at jM;exact jM
  rw[hq]
  clear c0 c1 c2 c3 c4 jM
  obtain⟨c0,c1,c2,c3,c4⟩:=Aw.cells
  have hf3:=Aw.frozen 4
  rw[tP]at c3
  have dP:dT (w1.setCell ⟨b,4,none⟩ (.int .i64 ((A.sc.op+1:Nat):Int))) b s mv (ez A.sc):=Aw.setOp _
  have dl:aa (·=b) w (w1.setCell ⟨b,4,none⟩ (.int .i64 ((A.sc.op+1:Nat):Int))):=dd.setCell (fun _=>rfl) _
  have Au:=hC.only dl dP (show A.sc.t<=40 from Te)
  go_wp2_with fail
  refine(qaF base b mv T P ms { A with sc:=ez A.sc } _ Au M3 hb Xc).mono ?_
  intro e w3 hChO
  have ci:=hChO.out
  have WM:=hChO.new
  clear hChO
  have gA:Cs b mv mv w (w1.setCell ⟨b,4,none⟩ (.int .i64 ((A.sc.op+1:Nat):Int))):=Cs.only dl
  have qbo:(ez A.sc).op=A.sc.op+1:=rfl
  have hfo:=js.op
  have uA:(ch { A with sc:=ez A.sc }).1.ns.length<=100000:=by have h1:=js.pot';have h2:=M3.pt;unfold Pt at h1 h2;dsimp only at h1 h2 ⊢;omega
  have vC:=js.iv
  generalize ch { A with sc:=ez A.sc }=X at *
  obtain⟨B,x⟩:=X
  dsimp only at *
  clear c0 c1 c2 c3 c4 hf3 dP dl Au Aw dd hq js M3
  by_cases hbB:B.sc.bad<0
  ·obtain⟨mv',P2,l,rfl,pH,qY,sK,hx,ZG⟩:=ci.ok hbB
   dsimp only at *
   have QC:=qY.t40
   obtain⟨kk,ja,eh⟩:=WM hbB
   have Xx:(P++P2).getD x 0=kk:=by
    unfold aO at ja;simpa using ja
   clear ja WM
   have Ck:w.heap.size<=kk:=by have:=gA.kept.size;omega
   unfold aO
   rw[Xx]
   go_wp2_with fail
   refine(cW b s mv' B.sc 41 _ qY.ris hs vC hbB (by decide)).mono ?_
   rintro e w4 ⟨rfl,fo,eK⟩
   have ur:=(gA.trans sK).trans (Cs.only (mv:=mv') eK)
   cases hq:il s B.sc 41
   ·have HB:Hid ((I2 s ch A).1.sc.bad=(sg s B.sc 41).at_):=by
     unfold Hid;rw[HX.out];show (mu s B.sc 41).bad=_
     unfold mu;rw[hq];simp only[Bool.false_eq_true,if_false]
     rw[gO (by rw[eJ];exact hbB)]
    go_wp2
    go_ret2
    exact⟨fun h=>absurd h (by rw[HB.out];omega),fun _=>⟨_,rfl,mv',_,fo,by rw[HB.out],ur⟩⟩
   ·have HB:Hid (I2 s ch A=({ B with sc:=oS (sg s B.sc 41) },x)):=by
     unfold Hid;rw[HX.out]
     unfold mu;rw[hq];rfl
    obtain⟨c0,c1,c2,c3,c4⟩:=fo.cells
    have hf3:=fo.frozen 4
    have hso:(sg s B.sc 41).op=A.sc.op+1:=by rw[qa,hfo,qbo]
    rw[hso]at c3
    have Qy:(sg s B.sc 41).bad<0:=by rw[eJ];exact hbB
    have jb:(sg s B.sc 41).t<=40:=by rw[nU];exact QC
    have fJ:dT (w4.setCell ⟨b,4,none⟩ (.int .i64 (A.sc.op:Int))) b s mv' (oS (sg s B.sc 41)):=by
     have:=fo.setOp A.sc.op
     unfold oS;rw[hso];exact this
    have gR:aa (·=b) w4 (w4.setCell ⟨b,4,none⟩ (.int .i64 (A.sc.op:Int))):=(aa.refl (·=b) w4).setCell (fun _=>rfl) _
    have M0:=qY.only (eK.trans gR) fJ jb
    have gP:=ur.trans (Cs.only (mv:=mv') gR)
    have EP:(((A.sc.op+1:Nat):Int)-1)=(A.sc.op:Int):=by omega
    obtain⟨z0,vR,vP,ia,hpS,_⟩:=M0.ar.part x hx
    rw[Xx]at ia hpS
    have eW:kk≠b:=hpS.1
    have AR:b≠kk:=fun h=>eW h.symm
    rw[Below.heap_setCell _ _ _ _ (show kk≠b from eW)]at ia
    have hfk:w4.frozen? ⟨kk,3,none⟩=false:=by
     simp[World.frozen?,ia]
    have xk:w4.cell? ⟨kk,3,none⟩=some (.int .i64 z0):=by
     simp[World.cell?,ia,Fx]
    have To:=fo.brk
    have hf3:=fo.frozen 3
    have vz:=M0.setBrk hx ZG
    rw[Xx]at vz
    have qaD:mv'.L.length<=100000:=by
     have h1:=M0.bk.len
     have h2:=M0.ar.len
     have h3:=uA
     have h4:({ B with sc:=oS (sg s B.sc 41) }:St).ns=B.ns:=rfl
     rw[h4]at h2
     omega
    obtain⟨zz,U3⟩:∃zz:Int,zz=(mv'.L.length:Int):=⟨_,rfl⟩
    rw[<-U3]at To vz
    have hzb:0<=zz/\zz<=100000:=by omega
    have EM:Cs b mv mv' w ((w4.setCell ⟨b,4,none⟩ (.int .i64 (A.sc.op:Int))).setCell ⟨kk,3,none⟩ (.int .i64 zz)):=⟨gP.kept.setCell (fun bj=>absurd bj (by dsimp only;omega)) _,gP.own,gP.pre⟩
    have jN:Cs b mv ⟨mv'.v,mv'.L++[kk]⟩ w (((w4.setCell ⟨b,4,none⟩ (.int .i64 (A.sc.op:Int))).setCell ⟨kk,3,none⟩ (.int .i64 zz)).setCell ⟨b,3,none⟩ (.int .i64 (zz+1))):=by
     have h0:=EM.trans (Cs.only (mv:=mv') ((aa.refl (·=b) _).setCell (p:=⟨b,3,none⟩) (fun _=>rfl) (.int .i64 (zz+1))))
     obtain⟨t,ht⟩:=h0.pre
     exact⟨h0.kept,h0.own,t++[kk],by show mv'.L++[kk]=_;rw[ht,List.append_assoc]⟩
    have fm:(P++P2).getD x 0∈mv'.L++[kk]:=by rw[Xx];simp
    clear ia hpS EM M0 gP fJ gR U3 ZG qaD
    go_wp2
    go_ret2
    rw[HB.out]
    exact⟨fun _=>⟨⟨mv'.v,mv'.L++[kk]⟩,P2,l,by unfold aO;rw[Xx];rfl,pH,vz,jN,hx,fun _=>fm⟩,fun h=>absurd (show 0<=(sg s B.sc 41).bad from h) (by omega)⟩
  ·obtain⟨v,c,rfl,mv',g',nh,dA,sK,jb⟩:=ci.no (show 0<=B.sc.bad by omega)
   dsimp only at *
   have WO:=gA.trans sK
   have HB:Hid ((I2 s ch A).1.sc.bad=B.sc.bad):=by
    unfold Hid;rw[HX.out];show (mu s B.sc 41).bad=_
    rw[jf 41 (by omega)]
   cases c
   ·go_wp2
    go_ret2
    exact⟨fun h=>absurd h (by rw[HB.out];omega),fun _=>⟨_,rfl,mv',g',nh,by rw[HB.out];exact dA,WO⟩⟩
   ·obtain⟨ut,p,rfl⟩:=jb rfl
    have N1:=ut.n41 (by omega)
    have hq:=ut.sgB N1
    have ki:=ut.sg N1
    go_wp2_with fail
    refine(cW b s mv' g' 41 _ nh hs ut.iv ut.bad (by decide)).mono ?_
    rintro e w4 ⟨rfl,fo,eK⟩
    rw[ki]at fo
    rw[hq]
    go_wp2
    go_ret2
    exact⟨fun h=>absurd h (by rw[HB.out];omega),fun _=>⟨_,rfl,mv',g',fo,by rw[HB.out];exact dA,WO.trans (Cs.only (mv:=mv') eK)⟩⟩
 ·have HX:Hid ((I2 s ch A).1.sc.bad=A.sc.at_):=by unfold Hid I2;rw[if_neg h5];show (wr A.sc).bad=_;rw[gO hb]
  have q5:((A.sc.op:Int) == 5)=true:=beq_iff_eq.2 (by omega)
  clear dH fK
  go_enter Tryz.func203,Tryz.ntmps203
  go_wp2
  go_ret2
  exact⟨fun h=>absurd h (by rw[HX.out];omega),fun _=>⟨_,rfl,mv,A.sc,hC.ris,by rw[HX.out],Cs.refl _ _ _⟩⟩
theorem CR.cs {w w':World}{base b:Nat}{s:ByteArray}{mv mv':Mv}{T:Nat->Prop}{P:List Nat}{ms ms':List Mn}{A:St}(h:CR w base b s mv T P ms A)(hS:Cs b mv mv' w w'){g:Sc}(hR:dT w' b s mv' g)(ho:w'.ownsRow base 198 3 mv'.v ms'.length (ms'.flatMap (Cq P)))(oe:mv'.v.ownBlock≠some b)(hLe:mv'.L=mv.L)
  (hm:∀m∈ms',∀i,m.part=some i->i<P.length) (ht:g.t<=40) (hl:ms'.length<=A.ns.length+8):CR w' base b s mv' T P ms' { A with sc:=g }:=by
 have hdj:∀j,j<w.heap.size->(j≠b/\mv.v.ownBlock≠some j/\¬T j)->¬(j=b\/mv.v.ownBlock=some j):=fun j _ x y=>?_
 refine⟨hR,ho,oe,h.ar.kept hS.kept hdj (fun j hj x=>⟨x.1,fun hx=>?_,x.2.2⟩),fun k fU=>Nat.lt_of_lt_of_le (h.told k fU) hS.kept.size,hm,h.bb,ht,hl,by rw[hLe];exact h.bk.kept h.ar hS.kept hdj⟩
 rotate_left
 ·rcases y with y | y
  ·exact x.1 y
  ·exact x.2.1 y
 ·rcases hS.own j hx with y | y
  ·exact x.2.1 y
  ·omega
theorem jh.shape {w w':World}{base b:Nat}{s:ByteArray}{mv:Mv}{T:Nat->Prop}{P:List Nat}{ms:List Mn}{A:St}{X:St × Nat}{e:Ending}(h:jh base b s mv T P ms A w X e w'):∃v c,e=.returned (.tuple #[v,.bool c]):=by
 rcases Int.lt_or_le X.1.sc.bad 0 with hx | hx
 ·obtain⟨mv',P2,l,h1,_⟩:=h.ok hx;exact⟨_,_,h1⟩
 ·obtain⟨v,h1,_⟩:=h.no hx;exact⟨_,_,h1⟩
theorem Ft {s:ByteArray}{g:Sc}(hb:g.bad<0)(ha:g.at_<=s.size){c:Nat}(hc:0<c):(nx s g.at_ == (c:Int))=decide (pk s g=c):=by
 rw[<-pU hb ha hc];rfl
theorem Hf {s:ByteArray}{ch:St->St × Nat}{d:Nat}(dH:d=0\/ou 141 s ch (d-1))(fK:d=0\/eN s ch (d-1))(base b:Nat)(mv:Mv)(T:Nat->Prop)(P:List Nat)(ms:List Mn)(A:St)(w:World)(hC:CR w base b s mv T P ms A)(hO:Ok s A)(hb:A.sc.bad<0)(hd:5<=A.sc.op+d):
  Calls Tryz.prog 199 #[.pointer (some ⟨b,0,none⟩)] w fun e w'=>jh base b s mv T P ms A w (aR s ch A) e w':=by
 have hs:=hO.size
 have qv:=hO.sc (Fs.bl hO.iv) (jR s A.sc)
 have dE:(bl s A.sc).bad<0:=by rw[ed];exact hb
 have tf:5<=(bl s A.sc).op+d:=by rw[ip];exact hd
 have ju:(bl s A.sc).t<=40:=by rw[jR];exact hC.t40
 have iB:=o8 s A.sc
 have HP:Hid (aR s ch A=aR s ch A):=rfl
 have hpM:aR s ch A=if bL (pk s (bl s A.sc)) then aP { A with sc:=(bz s (bl s A.sc)).2 } { cj with kind:=3,name:=(bz s (bl s A.sc)).1,at_:=(bl s A.sc).at_ }
  else if pk s (bl s A.sc)=46\/pk s (bl s A.sc)=39\/pk s (bl s A.sc)=91 then ID s { A with sc:=bl s A.sc }
  else if pk s (bl s A.sc)=40 then I2 s ch { A with sc:=bl s A.sc }
  else aP { A with sc:=wr (bl s A.sc) } cj:=by
  unfold aR ID I2
  dsimp only
  split
  ·rfl
  ·by_cases yu:pk s (bl s A.sc)=46
   ·simp[yu]
   ·by_cases h39:pk s (bl s A.sc)=39
    ·simp[h39]
    ·by_cases h91:pk s (bl s A.sc)=91
     ·simp[h91]
     ·by_cases qs:pk s (bl s A.sc)=40
      ·simp[qs]
      ·simp[yu,h39,h91,qs]
 have QF:bz s (bl s A.sc)=wd s 10 [] (bl s A.sc):=by unfold bz;rw[iB]
 rw[QF]at hpM
 have HM:=ae hpM
 clear hpM QF iB HP
 go_enter Tryz.func199,Tryz.ntmps199
 go_wp2_with fail
 refine(gK b s mv A.sc _ hC.ris hs (hO.iv.1 hb) hb).mono ?_
 rintro e w1 ⟨rfl,jM,dd⟩
 have se:=hC.only dd jM ju
 have Ci:=qv.iv
 have yK:=ip s A.sc
 generalize bl s A.sc=g at *
 dsimp only at *
 have Is:=Ci.1 dE
 go_wp2_with fail
 refine(gI b s mv g _ jM hs Is).mono ?_
 rintro e w2 ⟨rfl,n2,rfl⟩
 have dl:=dd.drewN n2
 have Au:CR (w1.drewN n2) base b s mv T P ms { A with sc:=g }:=hC.only dl (jM.drewN n2) ju
 have Np:=Ft (s:=s) dE Is (c:=39) (by decide)
 have Ph:=Ft (s:=s) dE Is (c:=91) (by decide)
 have LG:=Ft (s:=s) dE Is (c:=46) (by decide)
 have Nq:=Ft (s:=s) dE Is (c:=40) (by decide)
 have gA:Cs b mv mv w (w1.drewN n2):=Cs.only dl
 clear se dd jM
 generalize w1.drewN n2=w2 at *
 by_cases hT:pk s g=46\/pk s g=39\/pk s g=91
 ·have HX:Hid (aR s ch A=ID s { A with sc:=g }):=by
   unfold Hid;rw[HM.out,if_neg,if_pos hT]
   rcases hT with h | h | h <;> rw[h] <;> decide
  clear HM
  have hN:nx s g.at_=46\/nx s g.at_=39\/nx s g.at_=91:=by
   rcases hT with h | h | h
   ·left;rw[h]at LG;simpa using LG
   ·right;left;rw[h]at Np;simpa using Np
   ·right;right;rw[h]at Ph;simpa using Ph
  have A2:=Hy base b s mv T P ms { A with sc:=g } w2 Au hs Ci dE hT
  clear Np Ph LG Nq hT
  rcases hN with h | h | h
  all_goals
   rw[h]
   clear h
   go_wp2_with fail
   refine A2.mono ?_
   intro e w3 ci
   obtain⟨v,c,rfl⟩:=ci.shape
   go_wp2
   go_ret2
   rw[HX.out]
   exact ci.pre gA
 ·have e39:(nx s g.at_ == (39:Int))=false:=by rw[show (39:Int)=((39:Nat):Int) from rfl,Np];simp;omega
  have e91:(nx s g.at_ == (91:Int))=false:=by rw[show (91:Int)=((91:Nat):Int) from rfl,Ph];simp;omega
  have e46:(nx s g.at_ == (46:Int))=false:=by rw[show (46:Int)=((46:Nat):Int) from rfl,LG];simp;omega
  by_cases qs:pk s g=40
  ·have HX:Hid (aR s ch A=I2 s ch { A with sc:=g }):=by
    unfold Hid;rw[HM.out,if_neg,if_neg hT,if_pos qs]
    rw[qs];decide
   have hN:nx s g.at_=40:=by rw[qs]at Nq;simpa using Nq
   have UL:=z8 dH fK base b mv T P ms { A with sc:=g } w2 Au qv dE tf qs
   clear HM Np Ph LG Nq hT e39 e91 e46
   rw[hN]
   clear hN
   go_wp2_with fail
   refine UL.mono ?_
   intro e w3 ci
   obtain⟨v,c,rfl⟩:=ci.shape
   go_wp2
   go_ret2
   rw[HX.out]
   exact ci.pre gA
  ·have e40:(nx s g.at_ == (40:Int))=false:=by rw[show (40:Int)=((40:Nat):Int) from rfl,Nq];simp;omega
   clear Np Ph LG Nq
   obtain⟨L,hL⟩:∃L,wd s 10 [] g=L:=⟨_,rfl⟩
   have hLt:L.2.t=g.t:=by rw[<-hL];exact(qn 10 [] g Ci).2.2.2.1
   have HX:Hid ((L.2.bad<0->aR s ch A=aP { A with sc:=L.2 } { cj with kind:=3,name:=L.1,at_:=g.at_ })/\(aR s ch A).1.sc=L.2):=by
    unfold Hid
    rw[HM.out,if_neg hT,if_neg qs,hL]
    by_cases AI:bL (pk s g:Int)=true
    ·rw[if_pos AI];exact⟨fun _=>rfl,rfl⟩
    ·have hL2:L=([],wr g):=by rw[<-hL,wd,if_neg AI];simp
     rw[if_neg AI,hL2]
     exact⟨fun h=>absurd (show (wr g).bad<0 from h) (by rw[gO dE];show ¬((g.at_:Int)<0);omega),rfl⟩
   have oc:P.length=A.ns.length:=hC.ar.len
   have qY:=Au.add { cj with kind:=3,name:=L.1,at_:=g.at_ } (World.ownsRow_nil _ _ _ _) (by simp[Value.ownBlock]) (World.ownsRow_nil _ _ _ _) (by simp[Value.ownBlock]) (by simp[cj]) (by simp[cj])
   have xq:=Bn base b s mv ms.length _ g (some ⟨w2.heap.size,0,none⟩) _ qY.ris qY.own qY.nb qY.bb hs Ci dE (by have:=hC.mlen;have:=hO.len;omega)
   rw[hL]at xq
   clear HM hT hL
   generalize nx s g.at_=xx at *
   go_wp2_with fail
   refine(eA _ _ _ _ _).mono ?_
   rintro e w3 ⟨rfl,rfl⟩
   go_wp2_with fail
   refine xq.mono ?_
   intro e w4 ci
   obtain⟨t,rfl,Dp⟩:=ci.res
   go_wp2
   go_ret2
   have sK:Cs b mv mv w (w2.alloc (.cells (T1 0 0 0 ⟨#[]⟩ (.slice none 0 0) (.slice none 0 0)) 203)):=gA.trans (Cs.only ((aa.refl (·=b) w2).alloc _))
   refine⟨fun hg=>?_,fun hg=>?_⟩
   ·rw[HX.out.2]at hg
    obtain⟨mv',fo,Gp,qbb,ur,qas⟩:=ci.ok hg
    rw[HX.out.1 hg]
    have hm:l6 A.ns.length [{ cj with kind:=3,name:=L.1,at_:=g.at_ }]=[⟨L.1,g.at_,some A.ns.length⟩]:=by simp[l6,cj]
    have Xo:(P++[w2.heap.size]).getD A.ns.length 0=w2.heap.size:=by rw[cn (by omega),oc];simp
    refine⟨mv',[w2.heap.size],[{ cj with kind:=3,name:=L.1,at_:=g.at_ }],?_,rfl,?_,sK.trans ur,by simp[aP],fun h4=>absurd h4 (by simp[aP,cj])⟩
    ·rw[show decide (L.2.bad<0)=true by simpa using hg]
     unfold aO aP
     simp only
     rw[Xo]
     rfl
    ·rw[hm]
     refine qY.cs ur fo ?_ qbb qas ?_ (show L.2.t<=40 by omega) (by have:=hC.mlen;simp;omega)
     ·rw[List.flatMap_append,List.length_append]
      have:[(⟨L.1,g.at_,some A.ns.length⟩:Mn)].flatMap (Cq (P++[w2.heap.size]))=[.string (ba L.1),.int .i64 (g.at_:Int),.pointer (some ⟨w2.heap.size,0,none⟩)]:=by
       simp only[List.flatMap_cons,List.flatMap_nil,List.append_nil,Cq,Option.map_some]
       rw[Xo]
      rw[this]
      exact Gp
     ·intro m rt i eM
      rcases List.mem_append.1 rt with h | h
      ·exact qY.mlt m h i eM
      ·rw[List.mem_singleton.1 h]at eM
       have:=Option.some.inj eM
       simp;omega
   ·rw[HX.out.2]at hg ⊢
    exact⟨.pointer (some ⟨w2.heap.size,0,none⟩),by rw[show decide (L.2.bad<0)=false by simp;omega];rfl,(ci.no hg).pre sK⟩
end Go.Proofs.YtagklnaaoclmhaaGreatDoor
namespace Go.Proofs.YtagklnaaoclmhaaGreatDoor
open Go.RowKit
theorem CR.wrap {w:World}{base b:Nat}{s:ByteArray}{mv:Mv}{T:Nat->Prop}{P:List Nat}{ms:List Mn}{A:St}(h:CR w base b s mv T P ms A){x:Nat}(hx:x<A.ns.length)(wv:(A.ns.getD x cj).kind=4->P.getD x 0∈mv.L)(k:Nat)(hk:4<=k):
  CR ((w.alloc (.cells #[aO P x] 187)).alloc (.cells (T1 (k:Int) 0 0 ⟨#[]⟩ (.slice none 0 0) (.slice (some ⟨w.heap.size,0,none⟩) 1 1)) 203)) base b s mv T (P++[w.heap.size+1]) ms { A with ns:=A.ns++[{ cj with kind:=k,subs:=[x] }] }:=by
 have hb:=h.lt
 have kM:=h.bb
 have h1:=h.only ((aa.refl (·=b) w).alloc (.cells #[aO P x] 187)) (h.ris.alloc _) h.t40
 have h2:=h1.add { cj with kind:=k,subs:=[x] } (vR:=.slice none 0 0) (vP:=.slice (some ⟨w.heap.size,0,none⟩) 1 1) (World.ownsRow_nil _ _ _ _) (by simp[Value.ownBlock]) ?_ ?_ ?_ (fun j hj=>by rw[List.mem_singleton.1 hj];exact wv)
 ·have gC:cu k=(k:Int):=by unfold cu;rw[if_neg (by omega),if_neg (by omega)]
  rw[show ({ cj with kind:=k,subs:=[x] }:Nd).kind=k from rfl,gC]at h2
  have hz:(w.alloc (.cells #[aO P x] 187)).heap.size=w.heap.size+1:=by simp
  rw[hz]at h2
  exact h2
 ·exact World.ownsRow_lit w #[aO P x] 1 (by omega) (by decide) (by rfl)
 ·intro j hj
  have:w.heap.size=j:=Option.some.inj hj
  subst this
  exact⟨by omega,fun hx=>by have:=(h.own.lt _ hx).2;omega,fun hx=>Nat.lt_irrefl _ (h.told _ hx)⟩
 ·intro j hj
  rw[List.mem_singleton.1 hj];exact hx
theorem u5 {s:ByteArray}{g:Sc}(hb:g.bad<0)(hi:Iv s g){c:Nat}(hc:0<c):il s g c=decide (pk s (bl s g)=c):=by
 have dE:(bl s g).bad<0:=by rw[ed];exact hb
 rw[<-pU dE (hi.bl.1 dE) hc,D0 dE (hi.bl.1 dE)];rfl
theorem jh.wrap {w w':World}{base b:Nat}{s:ByteArray}{mv mv':Mv}{T:Nat->Prop}{P P2:List Nat}{ms:List Mn}{A B:St}{l:List Nd}{x k q:Nat}{g:Sc}{e:Ending}(hg:g.bad<0)(hk:5<=k)(pH:B.ns=A.ns++l)(hl:P.length=A.ns.length)(Ng:(P++P2).length=B.ns.length)
  (hC:CR w' base b s mv' T (P++P2++[q]) (ms++l6 A.ns.length l) ⟨g,B.ns++[{ cj with kind:=k,subs:=[x] }]⟩) (hS:Cs b mv mv' w w') (he:e=.returned (.tuple #[.pointer (some ⟨q,0,none⟩),.bool true])):
  jh base b s mv T P ms A w (aP { B with sc:=g } { cj with kind:=k,subs:=[x] }) e w':=by
 refine⟨fun _=>⟨mv',P2++[q],l++[{ cj with kind:=k,subs:=[x] }],?_,?_,?_,hS,by simp[aP],fun h4=>absurd (by simpa [aP] using h4) (show k≠4 by omega)⟩,fun h=>absurd (show 0<=g.bad from h) (by omega)⟩
 ·rw[he];unfold aO aP;simp only;rw[<-List.append_assoc,cn (by omega),Ng];simp
 ·show B.ns++_=_
  rw[pH,List.append_assoc]
 ·rw[nu,pQ (show k≠3 by omega),List.append_nil,<-List.append_assoc];exact hC
theorem j7 {s:ByteArray}{ch:St->St × Nat}{d:Nat}(dH:d=0\/ou 141 s ch (d-1))(fK:d=0\/eN s ch (d-1))(base b:Nat)(mv:Mv)(T:Nat->Prop)(P:List Nat)(ms:List Mn)(A:St)(w:World)(hC:CR w base b s mv T P ms A)(hO:Ok s A)(hb:A.sc.bad<0)(hd:5<=A.sc.op+d):
  Calls Tryz.prog 190 #[.pointer (some ⟨b,0,none⟩)] w fun e w'=>jh base b s mv T P ms A w (cG s (aR s ch A)) e w':=by
 have hs:=hO.size
 have js:=nA (s:=s) fK hO.iv hd
 have gG:=Hf dH fK base b mv T P ms A w hC hO hb hd
 have oc:P.length=A.ns.length:=hC.ar.len
 generalize aR s ch A=X at *
 obtain⟨B,x⟩:=X
 dsimp only at *
 have Xt:=js.iv
 clear dH fK js
 go_enter Tryz.func190,Tryz.ntmps190
 go_wp2_with fail
 refine gG.mono ?_
 intro e w1 ci
 by_cases hbB:B.sc.bad<0
 ·obtain⟨mv',P2,l,rfl,pH,se,iL,hx,wv⟩:=ci.ok hbB
  dsimp only at *
  have Ng:=se.ar.len
  have ju:=se.t40
  have Va:=u5 hbB Xt (c:=63) (by decide)
  have iB:(bl s B.sc).bad<0:=by rw[ed];exact hbB
  have yP:(bl s B.sc).t<=40:=by rw[jR];exact ju
  have TE:=u5 iB Xt.bl (c:=42) (by decide)
  have TF:=u5 iB Xt.bl (c:=43) (by decide)
  rw[o8]at TE TF
  have GK:∀c,il s B.sc c=true->sg s B.sc c=bM (bl s B.sc):=fun c h=>by unfold sg;rw[h];rfl
  have Ya:∀c,il s B.sc c=false->sg s B.sc c=bl s B.sc:=fun c h=>by unfold sg;rw[h];rfl
  have GL:∀c,il s (bl s B.sc) c=true->sg s (bl s B.sc) c=bM (bl s B.sc):=fun c h=>by unfold sg;rw[h,o8];rfl
  have GJ:∀c,il s (bl s B.sc) c=false->sg s (bl s B.sc) c=bl s B.sc:=fun c h=>by unfold sg;rw[h,o8];rfl
  have UK:(bM (bl s B.sc)).bad<0:=iB
  have ZN:(bM (bl s B.sc)).t<=40:=yP
  have uC:∀k,4<=k->bm (pk s (bl s B.sc))=k->cG s (B,x)=aP { B with sc:=bM (bl s B.sc) } { cj with kind:=k,subs:=[x] }:=by
   intro k hk h;unfold cG;dsimp only;rw[h,if_pos (by omega)]
  have jM:=se.ris
  have hib:=Xt.bl
  go_wp2_with fail
  refine(cW b s mv' B.sc 63 _ jM hs Xt hbB (by decide)).mono ?_
  rintro e w2 ⟨rfl,dP,dl⟩
  by_cases h63:pk s (bl s B.sc)=63
  ·have hq:il s B.sc 63=true:=by rw[Va];simpa using h63
   rw[GK 63 hq]at dP
   rw[hq]
   have Au:=se.only dl dP ZN
   have hW:=Au.wrap (x:=x) hx wv 6 (by decide)
   have HX:=ae (uC 6 (by decide) (by unfold bm;rw[if_pos h63]))
   have gA:=iL.trans (Cs.only (mv:=mv') dl)
   clear Va TE TF GK Ya GL GJ uC ci gG
   unfold aO at *
   go_wp2_with fail
   refine(eA _ _ _ _ _).mono ?_
   rintro e w3 ⟨rfl,rfl⟩
   go_wp2
   go_ret2
   rw[HX.out]
   refine jh.wrap UK (by decide) pH oc Ng hW ?_ ?_
   ·exact gA.trans (Cs.only (((aa.refl (·=b) w2).alloc _).alloc _))
   ·simp
  ·have hq:il s B.sc 63=false:=by rw[Va];simpa using h63
   rw[Ya 63 hq]at dP
   rw[hq]
   have Au:=se.only dl dP yP
   have gA:=iL.trans (Cs.only (mv:=mv') dl)
   go_wp2_with fail
   refine(cW b s mv' (bl s B.sc) 42 _ dP hs hib iB (by decide)).mono ?_
   rintro e w3 ⟨rfl,nh,eU⟩
   by_cases h42:pk s (bl s B.sc)=42
   ·have hq:il s (bl s B.sc) 42=true:=by rw[TE];simpa using h42
    rw[GL 42 hq]at nh
    rw[hq]
    have qY:=Au.only eU nh ZN
    have hW:=qY.wrap (x:=x) hx wv 7 (by decide)
    have HX:=ae (uC 7 (by decide) (by unfold bm;rw[if_neg h63,if_pos h42]))
    have sK:=gA.trans (Cs.only (mv:=mv') eU)
    clear Va TE TF GK Ya GL GJ uC ci gG
    unfold aO at *
    go_wp2_with fail
    refine(eA _ _ _ _ _).mono ?_
    rintro e w4 ⟨rfl,rfl⟩
    go_wp2
    go_ret2
    rw[HX.out]
    refine jh.wrap UK (by decide) pH oc Ng hW ?_ ?_
    ·exact sK.trans (Cs.only (((aa.refl (·=b) w3).alloc _).alloc _))
    ·simp
   ·have hq:il s (bl s B.sc) 42=false:=by rw[TE];simpa using h42
    rw[GJ 42 hq]at nh
    rw[hq]
    have qY:=Au.only eU nh yP
    have sK:=gA.trans (Cs.only (mv:=mv') eU)
    go_wp2_with fail
    refine(cW b s mv' (bl s B.sc) 43 _ nh hs hib iB (by decide)).mono ?_
    rintro e w4 ⟨rfl,fo,eK⟩
    have ur:=sK.trans (Cs.only (mv:=mv') eK)
    by_cases h43:pk s (bl s B.sc)=43
    ·have hq:il s (bl s B.sc) 43=true:=by rw[TF];simpa using h43
     rw[GL 43 hq]at fo
     rw[hq]
     have CX:=qY.only eK fo ZN
     have hW:=CX.wrap (x:=x) hx wv 8 (by decide)
     have HX:=ae (uC 8 (by decide) (by unfold bm;rw[if_neg h63,if_neg h42,if_pos h43]))
     clear Va TE TF GK Ya GL GJ uC ci gG
     unfold aO at *
     go_wp2_with fail
     refine(eA _ _ _ _ _).mono ?_
     rintro e w5 ⟨rfl,rfl⟩
     go_wp2
     go_ret2
     rw[HX.out]
     refine jh.wrap UK (by decide) pH oc Ng hW ?_ ?_
     ·exact ur.trans (Cs.only (((aa.refl (·=b) w4).alloc _).alloc _))
     ·simp
    ·have hq:il s (bl s B.sc) 43=false:=by rw[TF];simpa using h43
     rw[GJ 43 hq]at fo
     rw[hq]
     have CX:=qY.only eK fo yP
     have HX:Hid (cG s (B,x)=({ B with sc:=bl s B.sc },x)):=by
      unfold Hid cG bm;dsimp only;rw[if_neg h63,if_neg h42,if_neg h43];rfl
     clear Va TE TF GK Ya GL GJ uC ci gG
     go_wp2
     go_ret2
     rw[HX.out]
     exact⟨fun _=>⟨mv',P2,l,rfl,pH,CX,ur,hx,wv⟩,fun h=>absurd (show 0<=(bl s B.sc).bad from h) (by omega)⟩
 ·obtain⟨v,rfl,hF⟩:=ci.no (show 0<=B.sc.bad by omega)
  dsimp only at *
  have HX:Hid ((cG s (B,x)).1.sc.bad=B.sc.bad):=by
   have oW:pk s B.sc=0:=by unfold pk;rw[if_neg (fun h=>hbB h.1)]
   unfold Hid cG;dsimp only;rw[gr (by omega),oW];rfl
  clear gG
  go_wp2
  go_ret2
  exact⟨fun h=>absurd h (by rw[HX.out];omega),fun _=>⟨_,rfl,by rw[HX.out];exact hF⟩⟩
end Go.Proofs.YtagklnaaoclmhaaGreatDoor
namespace Go.Proofs.YtagklnaaoclmhaaGreatDoor
open Go.RowKit
theorem xz {s:ByteArray}{base b:Nat}{mv:Mv}{T:Nat->Prop}{P:List Nat}{ms:List Mn}{A:St}{g:Sc}{w w2:World}{X:St × Nat}(oc:P.length=A.ns.length)(hS:Cs b mv mv w w2)
  {e:Ending} {w3:World} (ci:jh base b s mv T P ms { A with sc:=g } w2 X e w3) (k:Nat) (hk:k=9\/k=10) (hg:X.1.sc.bad<0):
  ∃q,e=.returned (.tuple #[.pointer (some ⟨q,0,none⟩),.bool true])/\
   jh base b s mv T P ms A w (eG k X) (.returned (.tuple #[.pointer (some ⟨w3.heap.size+1,0,none⟩),.bool true])) ((w3.alloc (.cells #[.pointer (some ⟨q,0,none⟩)] 187)).alloc (.cells (T1 (k:Int) 0 0 ⟨#[]⟩ (.slice none 0 0) (.slice (some ⟨w3.heap.size,0,none⟩) 1 1)) 203)):=by
 obtain⟨mv',P2,l,rfl,pH,se,iL,hx,wv⟩:=ci.ok hg
 refine⟨(P++P2).getD X.2 0,rfl,?_⟩
 have hW:=se.wrap hx wv k (by omega)
 have:eG k X=aP { X.1 with sc:=X.1.sc } { cj with kind:=k,subs:=[X.2] }:=by unfold eG;rw[if_pos (by omega)]
 rw[this]
 exact jh.wrap hg (by omega) pH oc se.ar.len hW ((hS.trans iL).trans (Cs.only (((aa.refl (·=b) w3).alloc _).alloc _))) rfl
theorem kl {k:Nat}{X:St × Nat}:(eG k X).1.sc=X.1.sc:=by unfold eG;split <;> rfl
theorem GQ {s:ByteArray}{ch:St->St × Nat}{d:Nat}(dH:d=0\/ou 141 s ch (d-1))(fK:d=0\/eN s ch (d-1))(base b:Nat)(mv:Mv)(T:Nat->Prop)(P:List Nat)(ms:List Mn)(A:St)(w:World)(hC:CR w base b s mv T P ms A)(hO:Ok s A)(hb:A.sc.bad<0)(hd:5<=A.sc.op+d):
  Calls Tryz.prog 177 #[.pointer (some ⟨b,0,none⟩)] w fun e w'=>jh base b s mv T P ms A w (bP s ch A) e w':=by
 have hs:=hO.size
 have oc:P.length=A.ns.length:=hC.ar.len
 have Ci:=hO.iv.sg 38
 have dE:(sg s A.sc 38).bad<0:=by rw[eJ];exact hb
 have ju:(sg s A.sc 38).t<=40:=by rw[nU];exact hC.t40
 have qv:=hO.sc (Fs.sg hO.iv 38) (nU s A.sc 38)
 have tf:5<=(sg s A.sc 38).op+d:=by rw[qa];exact hd
 have eL:(sg s (sg s A.sc 38) 33).bad<0:=by rw[eJ];exact dE
 have EZ:(sg s (sg s A.sc 38) 33).t<=40:=by rw[nU];exact ju
 have mx:=qv.sc (Fs.sg Ci 33) (nU s _ 33)
 have Sj:5<=(sg s (sg s A.sc 38) 33).op+d:=by rw[qa];exact tf
 go_enter Tryz.func177,Tryz.ntmps177
 go_wp2_with fail
 refine(cW b s mv A.sc 38 _ hC.ris hs hO.iv hb (by decide)).mono ?_
 rintro e w1 ⟨rfl,jM,dd⟩
 have se:=hC.only dd jM ju
 cases mF:il s A.sc 38
 ·go_wp2_with fail
  refine(cW b s mv (sg s A.sc 38) 33 _ jM hs Ci dE (by decide)).mono ?_
  rintro e w2 ⟨rfl,dP,dl⟩
  have Au:=se.only dl dP EZ
  have gA:Cs b mv mv w w2:=Cs.only (dd.trans dl)
  cases ki:il s (sg s A.sc 38) 33
  ·have HX:Hid (bP s ch A=cG s (aR s ch { A with sc:=sg s (sg s A.sc 38) 33 })):=by
    unfold Hid bP eG cY bn;rw[mF,ki];rfl
   have AY:=j7 dH fK base b mv T P ms { A with sc:=sg s (sg s A.sc 38) 33 } w2 Au mx eL Sj
   generalize cG s (aR s ch { A with sc:=sg s (sg s A.sc 38) 33 })=X at *
   go_wp2_with fail
   refine AY.mono ?_
   intro e w3 ci
   rcases Int.lt_or_le X.1.sc.bad 0 with hx | hx
   ·obtain⟨mv',P2,l,rfl,_⟩:=ci.ok hx
    unfold aO at *
    go_wp2
    go_ret2
    rw[HX.out]
    exact ci.pre gA
   ·obtain⟨v,rfl,hF⟩:=ci.no hx
    go_wp2
    go_ret2
    rw[HX.out]
    exact⟨fun h=>absurd h (by omega),fun _=>⟨_,rfl,hF.pre gA⟩⟩
  ·have HX:Hid (bP s ch A=eG 10 (cG s (aR s ch { A with sc:=sg s (sg s A.sc 38) 33 }))):=by
    unfold Hid bP cY bn;rw[mF,ki];rfl
   have AY:=j7 dH fK base b mv T P ms { A with sc:=sg s (sg s A.sc 38) 33 } w2 Au mx eL Sj
   generalize cG s (aR s ch { A with sc:=sg s (sg s A.sc 38) 33 })=X at *
   go_wp2_with fail
   refine AY.mono ?_
   intro e w3 ci
   rcases Int.lt_or_le X.1.sc.bad 0 with hx | hx
   ·obtain⟨q,rfl,hT⟩:=xz oc gA ci 10 (Or.inr rfl) hx
    clear ci
    go_wp2_with fail
    refine(eA _ _ _ _ _).mono ?_
    rintro e w4 ⟨rfl,rfl⟩
    go_wp2
    go_ret2
    rw[HX.out]
    exact hT
   ·obtain⟨v,rfl,hF⟩:=ci.no hx
    go_wp2
    go_ret2
    rw[HX.out]
    exact⟨fun h=>absurd h (by rw[kl];omega),fun _=>⟨_,rfl,by rw[kl];exact hF.pre gA⟩⟩
 ·have HX:Hid (bP s ch A=eG 9 (cG s (aR s ch { A with sc:=sg s A.sc 38 }))):=by
   unfold Hid bP cY bn;rw[mF];rfl
  have iL:Cs b mv mv w w1:=Cs.only dd
  have AY:=j7 dH fK base b mv T P ms { A with sc:=sg s A.sc 38 } w1 se qv dE tf
  generalize cG s (aR s ch { A with sc:=sg s A.sc 38 })=X at *
  go_wp2_with fail
  refine AY.mono ?_
  intro e w3 ci
  rcases Int.lt_or_le X.1.sc.bad 0 with hx | hx
  ·obtain⟨q,rfl,hT⟩:=xz oc iL ci 9 (Or.inl rfl) hx
   clear ci
   go_wp2_with fail
   refine(eA _ _ _ _ _).mono ?_
   rintro e w4 ⟨rfl,rfl⟩
   go_wp2
   go_ret2
   rw[HX.out]
   exact hT
  ·obtain⟨v,rfl,hF⟩:=ci.no hx
   go_wp2
   go_ret2
   rw[HX.out]
   exact⟨fun h=>absurd h (by rw[kl];omega),fun _=>⟨_,rfl,by rw[kl];exact hF.pre iL⟩⟩
end Go.Proofs.YtagklnaaoclmhaaGreatDoor
