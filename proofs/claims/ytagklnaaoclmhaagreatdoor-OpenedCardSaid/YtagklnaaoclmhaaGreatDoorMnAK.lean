import Derived.Test.YtagklnaaoclmhaaGreatDoorMnAJ
import Derived.Shelf.Strconv.Clone
set_option linter.unusedSimpArgs false
set_option linter.unusedVariables false
set_option maxRecDepth 100000
set_option maxHeartbeats 16000000
namespace Go.Proofs.YtagklnaaoclmhaaGreatDoor
open Go.RowKit
theorem CR.apart {w:World}{base b:Nat}{s:ByteArray}{mv:Mv}{T T':Nat->Prop}{P:List Nat}{ms:List Mn}{A:St}(h:CR w base b s mv T P ms A)(ht:∀k,T' k->T k):CR w base b s mv T' P ms A:=
 ⟨h.ris,h.own,h.nb,h.ar.kept (aa.refl (fun _=>False) w) (fun _ _ _ x=>x) (fun _ _ x=>⟨x.1,x.2.1,fun y=>x.2.2 (ht _ y)⟩),fun k hk=>h.told k (ht k hk),h.mlt,h.bb,h.t40,h.mlen,h.bk⟩
structure MQ (H:Nat)(w:World)(base b:Nat)(mv:Mv)(v:Value)(P acc:List Nat):Prop where
 own:w.ownsRow base 187 1 v acc.length (acc.map (aO P))
 new:∀j,v.ownBlock=some j->H<=j
 nb:∀j,v.ownBlock=some j->j≠b/\mv.v.ownBlock≠some j
def IF (T:Nat->Prop)(v:Value)(k:Nat):Prop:=T k\/v.ownBlock=some k
theorem Hk {P l acc:List Nat}(h:∀j∈acc,j<P.length):acc.map (aO (P++l))=acc.map (aO P):=by
 apply List.map_congr_left
 intro j hj
 unfold aO
 rw[bo (h j hj)]
theorem MQ.cs {H:Nat}{w w':World}{base b:Nat}{mv mv':Mv}{v:Value}{P acc:List Nat}(h:MQ H w base b mv v P acc)(hS:Cs b mv mv' w w')(hl:∀j∈acc,j<P.length)(l:List Nat):MQ H w' base b mv' v (P++l) acc:=by
 refine⟨?_,h.new,fun j hj=>⟨(h.nb j hj).1,fun hx=>?_⟩⟩
 ·rw[Hk hl]
  exact aC h.own hS.kept (fun i hi hx=>by
   rcases hx with hx | hx
   ·exact(h.nb i hi).1 hx
   ·exact(h.nb i hi).2 hx)
 ·rcases hS.own j hx with y | y
  ·exact(h.nb j hj).2 y
  ·have:=(h.own.lt j hj).2;omega
theorem Lb:(Tryz.prog.info? 187).map (fun i=>(i.zero,i.size,i.bytes))=some (some (.pointer none),1,8):=by kernel_rfl
theorem MQ.app {H:Nat}{w w9:World}{base b:Nat}{s:ByteArray}{mv:Mv}{v:Value}{T:Nat->Prop}{P acc:List Nat}{ms:List Mn}{A:St}{x gg cap:Nat}{o:Obj}(h:MQ H w base b mv v P acc)(hC:CR w base b s mv (IF T v) P ms A)(hH:H<=w.heap.size)
  (bW:w9.ownsRow base 187 1 (.slice (some ⟨gg,0,none⟩) (acc.length+1) cap) (acc.length+1) (acc.map (aO P)++[aO P x])) (hgrow:(w.alloc o).grownBy w9 v.ownBlock) (dA:v.ownBlock=some gg\/gg=w.heap.size+1):
  MQ H w9 base b mv (.slice (some ⟨gg,0,none⟩) (acc.length+1) cap) P (acc++[x])/\CR w9 base b s mv (IF T (.slice (some ⟨gg,0,none⟩) (acc.length+1) cap)) P ms A/\aa (fun k=>v.ownBlock=some k) w w9:=by
 have hk:aa (fun k=>v.ownBlock=some k) w w9:=((aa.refl _ w).alloc _).grown hgrow (fun k hk _=>hk)
 have hb:=hC.lt
 have hz:=hk.size
 have lV:gg<w9.heap.size:=(bW.lt gg rfl).2
 refine⟨⟨?_,fun j hj=>?_,fun j hj=>?_⟩,?_,hk⟩
 ·rw[List.length_append,List.map_append];exact bW
 ·have:gg=j:=Option.some.inj hj
  subst this
  rcases dA with h1 | h1
  ·exact h.new _ h1
  ·omega
 ·have:gg=j:=Option.some.inj hj
  subst this
  rcases dA with h1 | h1
  ·exact h.nb _ h1
  ·exact⟨by omega,fun hx=>by have:=(hC.own.lt _ hx).2;omega⟩
 ·refine⟨hC.ris.kept hk (fun hx=>(h.nb b hx).1 rfl),aC hC.own hk (fun i hi hx=>(h.nb i hx).2 hi),hC.nb,hC.ar.kept hk (fun j _ x y=>x.2.2 (.inr y)) (fun j hj x=>⟨x.1,x.2.1,fun y=>?_⟩),fun k fU=>?_,hC.mlt,hC.bb,hC.t40,hC.mlen,hC.bk.kept hC.ar hk (fun j _ x y=>x.2.2 (.inr y))⟩
  ·rcases y with y | y
   ·exact x.2.2 (.inl y)
   ·have:gg=j:=Option.some.inj y
    subst this
    rcases dA with h1 | h1
    ·exact x.2.2 (.inr h1)
    ·omega
  ·rcases fU with y | y
   ·have:=hC.told k (.inl y);omega
   ·have:gg=k:=Option.some.inj y
    omega
end Go.Proofs.YtagklnaaoclmhaaGreatDoor
namespace Go.Proofs.YtagklnaaoclmhaaGreatDoor
open Go.RowKit
theorem RE {s:ByteArray}{g:Sc}(hb:g.bad<0)(ha:g.at_<=s.size):CE (nx s g.at_)=CE (pk s g:Int):=by
 unfold nx pk
 by_cases h:g.at_=s.size
 ·rw[if_pos h,if_neg (by omega)];decide
 ·rw[if_neg h,if_pos ⟨hb,by omega⟩]
theorem I1 {c:Nat}(h:CE (c:Int)=true):0<c/\c≠10/\c≠47/\c≠41:=by
 unfold CE bL at h
 simp at h
 omega
theorem Ga {c:Nat}(h:CE (c:Int)=false):c≠38/\c≠33/\c≠39/\c≠91/\c≠46/\c≠40/\bL (c:Int)=false:=by
 unfold CE at h
 rw[Bool.or_eq_false_iff]at h
 have h1:=h.1
 simp at h1
 refine⟨?_,?_,?_,?_,?_,?_,h.2⟩ <;> omega
theorem Hu {s:ByteArray}{g:Sc}(h:CE (pk s g:Int)=true):du s g=false:=by
 obtain⟨h0,h1,h2,h3⟩:=I1 h
 obtain⟨p1,p2,_⟩:=cT h0
 unfold du
 rw[cS.2 ⟨p1,p2⟩]
 simp[h1,h2,h3]
theorem Dv {s:ByteArray}{ch:St->St × Nat}{A:St}(hb:A.sc.bad<0)(hi:Iv s A.sc)(iB:bl s A.sc=A.sc)(h:CE (pk s A.sc:Int)=false):(bP s ch A).1.sc=wr A.sc:=by
 obtain⟨h1,h2,h3,h4,h5,h6,h7⟩:=Ga h
 have k1:il s A.sc 38=false:=by rw[u5 hb hi (by decide),iB];simpa using h1
 have k2:sg s A.sc 38=A.sc:=by unfold sg;rw[k1,iB];rfl
 have k3:il s A.sc 33=false:=by rw[u5 hb hi (by decide),iB];simpa using h2
 have k4:sg s A.sc 33=A.sc:=by unfold sg;rw[k3,iB];rfl
 have k5:bn s A.sc=A.sc:=by unfold bn;rw[k1,k2,k4];rfl
 have k6:aR s ch A=aP { A with sc:=wr A.sc } cj:=by
  unfold aR;rw[iB,if_neg (by rw[h7];simp),if_neg h5,if_neg h3,if_neg h4,if_neg (fun x=>h6 x.1)]
 have hw:¬(wr A.sc).bad<0:=by rw[gO hb];show ¬((A.sc.at_:Int)<0);omega
 have k7:(cG s (aR s ch A)).1.sc=wr A.sc:=by
  rw[k6];unfold cG
  have e1:(aP { A with sc:=wr A.sc } cj).1.sc=wr A.sc:=rfl
  rw[e1,gr (by omega)]
  have oW:pk s (wr A.sc)=0:=by unfold pk;rw[if_neg (fun x=>hw x.1)]
  rw[oW];rfl
 unfold bP
 rw[kl,k5]
 exact k7
theorem uZ {s:ByteArray}{g:Sc}(h:¬g.bad<0):du s g=true:=by
 unfold du
 have:cV s g=false:=by unfold cV;simp;omega
 rw[this];rfl
theorem DU {s:ByteArray}{ch:St->St × Nat}{f:Nat}{acc:List Nat}{A:St}(hb:A.sc.bad<0)(hi:Iv s A.sc)(iB:bl s A.sc=A.sc)(h:CE (pk s A.sc:Int)=false):(dk s ch (f+1) acc A).1.sc=wr A.sc:=by
 have h1:=Dv (ch:=ch) hb hi iB h
 have hw:¬(wr A.sc).bad<0:=by rw[gO hb];show ¬((A.sc.at_:Int)<0);omega
 have h2:bl s (wr A.sc)=wr A.sc:=gr (by omega)
 rw[dk,h1,h2,uZ hw]
 rfl
end Go.Proofs.YtagklnaaoclmhaaGreatDoor
namespace Go.Proofs.YtagklnaaoclmhaaGreatDoor
open Go.RowKit
theorem MQ.only {H:Nat}{w w':World}{base b:Nat}{mv:Mv}{v:Value}{P acc:List Nat}(h:MQ H w base b mv v P acc)(hk:aa (·=b) w w'):MQ H w' base b mv v P acc:=
 ⟨aC h.own hk (fun i hi hx=>(h.nb i hi).1 hx),h.new,h.nb⟩
theorem RF {s:ByteArray}{g:Sc}(hb:g.bad<0)(h:(bl s g).at_<s.size):am s (bl s g).at_≠32:=by
 have h1:bl s g={ g with at_:=dh s (s.size-g.at_) g.at_ }:=by unfold bl;rw[if_pos hb]
 have h2:=oT s (s.size-g.at_) g.at_ (by omega)
 rw[h1]at h ⊢
 exact fun x=>h2 ⟨h,x⟩
theorem Ma {s:ByteArray}{g:Sc}{o:Nat}(hb:(bl s g).bad<0)(ho:(bl s g).op=o)(h:du s (bl s g)=false):nX s o (bl s g):=by
 unfold du at h
 simp only[Bool.or_eq_false_iff,Bool.not_eq_false']at h
 obtain⟨⟨⟨h1,h2⟩,h3⟩,h4⟩:=h
 have hm:=cS.1 h1
 have oW:pk s (bl s g)=am s (bl s g).at_:=by unfold pk;rw[if_pos ⟨hb,hm.2⟩]
 rw[oW]at h2 h3 h4
 refine⟨hb,hm.2,RF (by rw[ed]at hb;exact hb) hm.2,by simpa using h2,by simpa using h3,fun h5 h6=>?_⟩
 rw[h6,ho]at h4
 simp at h4
 omega
theorem aa.then9 {S:Nat->Prop}{w w1 w2:World}{v:Value}(h:aa S w w1)(k:aa (fun j=>v.ownBlock=some j) w1 w2)(hn:∀j,v.ownBlock=some j->w.heap.size<=j):aa S w w2:=
 ⟨k.os.trans h.os,k.tape.trans h.tape,k.output.trans h.output,Nat.le_trans h.size k.size,fun i hi hs=>by
  rw[k.block i (Nat.lt_of_lt_of_le hi h.size) (fun hx=>by have:=hn i hx;omega)];exact h.block i hi hs⟩
structure SqI (base b:Nat)(s:ByteArray)(mv:Mv)(T:Nat->Prop)(P:List Nat)(ms:List Mn)(A:St)(w:World)(n:Nat)(v:Value)(wx:World)(acc:List Nat)(A6:St)(vE:Mv)(P2:List Nat)(l:List Nd):Prop where
 rkl:rk s A6.sc<=n
 len:acc.length+rk s A6.sc<=402
 ok:Ok s A6
 bad:A6.sc.bad<0
 op:A6.sc.op=A.sc.op
 cr:CR wx base b s vE (IF T v) (P++P2) (ms++l6 A.ns.length l) A6
 ns:A6.ns=A.ns++l
 ac:MQ w.heap.size wx base b vE v (P++P2) acc
 lt:∀j∈acc,j<A6.ns.length
 cs:Cs b mv vE w wx
 k4:∀j∈acc,(A6.ns.getD j cj).kind=4->(P++P2).getD j 0∈vE.L
theorem LX {s:ByteArray}{ch:St->St × Nat}{d:Nat}(dH:d=0\/ou 141 s ch (d-1))(fK:d=0\/eN s ch (d-1))(base b:Nat)(mv:Mv)(T:Nat->Prop)(P:List Nat)(ms:List Mn)(A:St)(w:World)(hC:CR w base b s mv T P ms A)(hO:Ok s A)(hb:A.sc.bad<0)(hd:5<=A.sc.op+d):
  Calls Tryz.prog 165 #[.pointer (some ⟨b,0,none⟩)] w fun e w'=>Vl base b s mv T P ms A w (eT s ch A) e w':=by
 obtain⟨i0,iC,gH,iD,iz⟩:=info_parts Lb
 have hs:=hO.size
 obtain⟨L,hL⟩:∃L,dk s ch (s.size+3) [] A=L:=⟨_,rfl⟩
 have HP:Hid (eT s ch A=aP L.1 { cj with kind:=5,subs:=L.2 }):=by unfold Hid eT;rw[hL]
 have HL:Hid (dk s ch (s.size+2+1) [] A=L):=hL
 clear hL
 go_enter Tryz.func165,Tryz.ntmps165
 go_wp2
 go_loopg [4] (s.size+2) (fun n v wx=>∃acc A6 vE P2 l,SqI base b s mv T P ms A w n v wx acc A6 vE P2 l/\Hid (dk s ch (n+1) acc A6=L))
 case atStart=>
  refine⟨[],A,mv,[],[],⟨by have:=fW s A.sc;omega,by have:=fW s A.sc;simp;omega,hO,hb,rfl,?_,by simp,⟨World.ownsRow_nil _ _ _ _,by simp[Value.ownBlock],by simp[Value.ownBlock]⟩,by simp,Cs.refl _ _ _,by simp⟩,HL.out⟩
  rw[List.append_nil,l6,List.append_nil]
  exact hC.apart (fun k hk=>by rcases hk with h | h;exact h;exact absurd h (by simp[Value.ownBlock]))
 case round=>
  obtain⟨acc,A6,vE,P2,l,hI,HR⟩:=hrel
  obtain⟨m,hm⟩:∃m,m=gk:=⟨gk,rfl⟩
  subst hm
  have js:=nk fK hI.ok.iv (show 5<=A6.sc.op+d by rw[hI.op];exact hd)
  have pB:=GQ dH fK base b vE (IF T u4) (P++P2) (ms++l6 A.ns.length l) A6 wr hI.cr hI.ok hI.bad (by rw[hI.op];exact hd)
  have h1:=HR.out
  rw[dk]at h1
  have H1:=ae h1
  clear h1 HR
  generalize bP s ch A6=X at *
  obtain⟨B,x⟩:=X
  dsimp only at *
  go_wp2_with fail
  refine pB.mono ?_
  intro e w7 ci
  by_cases hbB:B.sc.bad<0
  ·obtain⟨jP,P3,l2,rfl,pH,vz,jN,hx,wv⟩:=ci.ok hbB
   dsimp only at *
   have AJ:(P++P2).length=A6.ns.length:=hI.cr.ar.len
   have qt:=hI.ac.cs jN (fun j hj=>by rw[AJ];exact hI.lt j hj) P3
   have hH:w.heap.size<=w7.heap.size:=Nat.le_trans hI.cs.kept.size jN.kept.size
   have gV:base<=w7.heap.size:=by have:=vz.bb;have:=vz.lt;omega
   have kL:acc.length<=402:=by have:=hI.len;omega
   clear pB ci
   unfold aO
   obtain⟨pq,lX⟩:∃pq,pq=(P++P2++P3).getD x 0:=⟨_,rfl⟩
   rw[<-lX]
   have HQ:=ae lX
   clear lX
   go_wp2_with (at_builtin;refine wpList_append_lies _ rfl _ _ _ rfl base 187 i0 _ 1 8 Tryz.underlying201 iC gH iD iz rfl (by omega) u4 acc.length (acc.map (aO (P++P2++P3))) (by rfl) (qt.own.alloc _) ⟨w7.heap.size,0,none⟩ 1 1 [.pointer (some ⟨pq,0,none⟩)] (by rfl) rfl (World.news_of_block (cs:=#[.pointer (some ⟨pq,0,none⟩)]) (t:=187) (fr:=(0,0)) (heap_alloc_new w7 _)) (by simp[Value.oneCell']) (by omega) (by simp[maxLen];omega) (by omega) (by simp;omega) (w7.heap.size+1) (by simp) ?_;intro gg cap w9 bW hgrow dA bj)
   obtain⟨Cc,CY,tl⟩:=qt.app (x:=x) vz hH (by unfold aO at bW ⊢;rw[<-HQ.out];exact bW) hgrow dA
   have ht7:=vz.t40
   have Is:(bl s B.sc).at_<=s.size:=js.iv.bl.1 (by rw[ed];exact hbB)
   have mA:(bl s B.sc).bad<0:=by rw[ed];exact hbB
   have Ir:=RE mA Is
   have hid:=o8 s B.sc
   have Cg:(bl s B.sc).t<=40:=by rw[jR];exact ht7
   have nS:rk s (bl s B.sc)<rk s A6.sc:=kC hI.ok.iv hI.bad (fun _=>by have:=js.prog hbB;have:=jK s B.sc;omega)
   have la:=(hI.ok.next js hbB (by decide)).sc (Fs.bl js.iv) (jR s B.sc)
   have OG:(bl s B.sc).op=A.sc.op:=by rw[ip,js.op,hI.op]
   have hP:P++P2++P3=P++(P2++P3):=List.append_assoc ..
   have SK:ms++l6 A.ns.length l++l6 A6.ns.length l2=ms++l6 A.ns.length (l++l2):=by
    rw[nu,List.append_assoc,hI.ns,List.length_append]
   have KE:B.ns=A.ns++(l++l2):=by rw[pH,hI.ns,List.append_assoc]
   have Ku:∀j∈acc++[x],j<B.ns.length:=by
    intro j hj
    rcases List.mem_append.1 hj with h | h
    ·have:=hI.lt j h;have:=js.len;omega
    ·rw[List.mem_singleton.1 h];exact hx
   have Kq:∀j∈acc++[x],(B.ns.getD j cj).kind=4->(P++(P2++P3)).getD j 0∈jP.L:=by
    intro j hj h4
    rw[<-hP]
    rcases List.mem_append.1 hj with h | h
    ·have C8:=hI.lt j h
     rw[pH,bo C8]at h4
     rw[bo (by omega)]
     obtain⟨t,ht⟩:=jN.pre
     rw[ht]
     exact List.mem_append_left _ (hI.k4 j h h4)
    ·rw[List.mem_singleton.1 h]at h4 ⊢
     exact wv h4
   have WP:Cs b mv jP w w9:=by
    have h0:=hI.cs.trans jN
    exact⟨h0.kept.then9 tl qt.new,fun k hk=>h0.own k hk,h0.pre⟩
   rw[hP]at Cc CY
   rw[SK]at CY
   generalize hv10:Value.slice (some ⟨gg,0,none⟩) (acc.length+1) cap=v10 at *
   obtain⟨Vd,V9,E2⟩:∃p c,v10=.slice p (acc.length+1) c:=⟨_,_,hv10.symm⟩
   clear hv10 bW hgrow dA bj qt vz HQ tl
   refine(gK b s jP B.sc _ CY.ris hs (js.iv.1 hbB) hbB).mono ?_
   rintro e vl ⟨rfl,my,jW⟩
   have JP:=CY.only jW my Cg
   have qal:=Cc.only jW
   go_wp2_with fail
   refine(gI b s jP _ _ my hs Is).mono ?_
   rintro e w11 ⟨rfl,No,rfl⟩
   have jn:aa (·=b) w9 (vl.drewN No):=jW.drewN No
   have nN:=CY.only jn (my.drewN No) Cg
   have ul:=Cc.only jn
   have rf:=WP.trans (Cs.only (mv:=jP) jn)
   go_wp2_with fail
   refine(tU _ _).mono ?_
   rintro e w12 ⟨rfl,rfl⟩
   rw[Ir]
   generalize hw11:vl.drewN No=w11 at *
   clear hw11 JP qal CY Cc my jW jn Ir
   generalize nx s (bl s B.sc).at_=xx at *
   cases hbi:CE (pk s (bl s B.sc):Int)
   ·cases lY:du s (bl s B.sc)
    ·have H2:Hid ((eT s ch A).1.sc.bad=(bl s B.sc).at_):=by
      have h1:=H1.out
      rw[lY]at h1
      simp only[Bool.false_eq_true,if_false]at h1
      have Kv:m-1+1=m:=by have:=hI.rkl;omega
      rw[<-Kv]at h1
      have h2:=DU (s:=s) (ch:=ch) (f:=m-1) (acc:=acc++[x]) (A:={ B with sc:=bl s B.sc }) mA js.iv.bl hid hbi
      rw[h1]at h2
      unfold Hid;rw[HP.out];show L.1.sc.bad=_
      rw[h2,gO mA]
     have ut:=Ma (o:=A.sc.op) mA OG lY
     subst E2
     clear H1 HP HL hbi lY
     go_wp2_with fail
     refine(eA _ _ _ _ _).mono ?_
     rintro e w13 ⟨rfl,rfl⟩
     go_wp2
     go_ret2
     exact⟨fun h=>absurd h (by rw[H2.out];omega),fun _=>⟨_,_,rfl,jP,bl s B.sc,nN.ris.alloc _,by rw[H2.out],rf.trans (Cs.only ((aa.refl (·=b) w11).alloc _)),fun _=>⟨ut,_,rfl⟩⟩⟩
    ·have H2:Hid (eT s ch A=aP { B with sc:=bl s B.sc } { cj with kind:=5,subs:=acc++[x] }):=by
      have h1:=H1.out
      rw[lY]at h1
      simp only[if_true]at h1
      unfold Hid;rw[HP.out,<-h1]
     have RQ:=(nN.apart (T':=T) (fun k h=>.inl h)).add { cj with kind:=5,subs:=acc++[x] } (World.ownsRow_nil _ _ _ _) (by simp[Value.ownBlock]) ul.own (fun j hj=>⟨(ul.nb j hj).1,(ul.nb j hj).2,fun hT=>by have:=hC.told j hT;have:=ul.new j hj;omega⟩) Ku Kq
     have Ks:(P++(P2++P3)).length=B.ns.length:=nN.ar.len
     subst E2
     clear H1 HP HL hbi lY
     go_wp2_with fail
     refine(eA _ _ _ _ _).mono ?_
     rintro e w13 ⟨rfl,rfl⟩
     go_wp2
     go_ret2
     rw[H2.out]
     refine⟨fun _=>⟨jP,P2++P3++[w11.heap.size],l++l2++[{ cj with kind:=5,subs:=acc++[x] }],?_,?_,?_,rf.trans (Cs.only ((aa.refl (·=b) w11).alloc _)),by simp[aP],?_⟩,fun h=>absurd (show 0<=(bl s B.sc).bad from h) (by omega)⟩
     ·unfold aO aP;simp only
      rw[<-List.append_assoc P,cn (by omega),Ks]
      simp
     ·show B.ns++_=_
      rw[KE,List.append_assoc,List.append_assoc]
     ·rw[<-List.append_assoc P,nu,pQ (show (5:Nat)≠3 by decide),List.append_nil]
      exact RQ
     ·unfold aP;simp only
      rw[<-List.append_assoc P,cn (by omega),Ks]
      intro hx
      have:=nN.bk.le nN.ar _ hx
      simp at this
   ·have lY:=Hu hbi
    have H2:Hid (dk s ch (m-1+1) (acc++[x]) { B with sc:=bl s B.sc }=L):=by
     have h1:=H1.out
     rw[lY]at h1
     simp only[Bool.false_eq_true,if_false]at h1
     unfold Hid
     rw[show m-1+1=m by have:=hI.rkl;omega]
     exact h1
    have HM:Hid (rk s (bl s B.sc)<rk s A6.sc/\rk s A6.sc<=m/\acc.length+rk s A6.sc<=402):=⟨nS,hI.rkl,hI.len⟩
    clear H1 HP HL hbi lY nS
    subst E2
    go_wp2
    go_roundg (m-1)
    case measure=>have:=HM.out;omega
    case rel=>
     have:=HM.out
     exact⟨acc++[x],{ B with sc:=bl s B.sc },jP,P2++P3,l++l2,⟨by dsimp only;omega,by simp;omega,la,mA,OG,nN,KE,ul,Ku,rf,Kq⟩,H2.out⟩
  ·obtain⟨v,rfl,mv',g',f1,f2,f3⟩:=ci.no (show 0<=B.sc.bad by omega)
   dsimp only at *
   have H2:Hid ((eT s ch A).1.sc.bad=B.sc.bad):=by
    have h1:=H1.out
    rw[gr (by omega),uZ hbB]at h1
    simp only[if_true]at h1
    unfold Hid;rw[HP.out,<-h1];rfl
   have sL:=hI.cs.trans f3
   clear H1 HP HL pB
   go_wp2
   go_ret2
   exact⟨fun h=>absurd h (by rw[H2.out];omega),fun _=>⟨_,false,rfl,mv',g',f1,by rw[H2.out];exact f2,sL,fun h=>absurd h (by simp)⟩⟩
theorem xP (s:ByteArray)(ch:St->St × Nat)(A:St):((eT s ch A).1.ns.getD (eT s ch A).2 cj).kind=5:=by
 unfold eT aP;simp
theorem Ag {s:ByteArray}{ch:St->St × Nat}{d:Nat}(dH:d=0\/ou 141 s ch (d-1))(fK:d=0\/eN s ch (d-1))(base b:Nat)(mv:Mv)(T:Nat->Prop)(P:List Nat)(ms:List Mn)(A:St)(w:World)(hC:CR w base b s mv T P ms A)(hO:Ok s A)(hb:A.sc.bad<0)(hd:5<=A.sc.op+d):
  Calls Tryz.prog 141 #[.pointer (some ⟨b,0,none⟩)] w fun e w'=>PI base b s mv T P ms A w (jU s ch A) e w':=by
 obtain⟨i0,iC,gH,iD,iz⟩:=info_parts Lb
 have hs:=hO.size
 obtain⟨L,hL⟩:∃L,dD s ch (s.size+3) [] A=L:=⟨_,rfl⟩
 have HP:Hid (jU s ch A=aP L.1 { cj with kind:=4,subs:=L.2 }):=by unfold Hid jU;rw[hL]
 have HL:Hid (dD s ch (s.size+2+1) [] A=L):=hL
 clear hL
 go_enter Tryz.func141,Tryz.ntmps141
 go_wp2
 go_loopg [4] (s.size+2) (fun n v wx=>∃acc A6 vE P2 l,SqI base b s mv T P ms A w n v wx acc A6 vE P2 l/\Hid (dD s ch (n+1) acc A6=L))
 case atStart=>
  refine⟨[],A,mv,[],[],⟨by have:=fW s A.sc;omega,by have:=fW s A.sc;simp;omega,hO,hb,rfl,?_,by simp,⟨World.ownsRow_nil _ _ _ _,by simp[Value.ownBlock],by simp[Value.ownBlock]⟩,by simp,Cs.refl _ _ _,by simp⟩,HL.out⟩
  rw[List.append_nil,l6,List.append_nil]
  exact hC.apart (fun k hk=>by rcases hk with h | h;exact h;exact absurd h (by simp[Value.ownBlock]))
 case round=>
  obtain⟨acc,A6,vE,P2,l,hI,HR⟩:=hrel
  obtain⟨m,hm⟩:∃m,m=gk:=⟨gk,rfl⟩
  subst hm
  have js:=rJ fK hI.ok.iv (show 5<=A6.sc.op+d by rw[hI.op];exact hd)
  have pB:=LX dH fK base b vE (IF T u4) (P++P2) (ms++l6 A.ns.length l) A6 wr hI.cr hI.ok hI.bad (by rw[hI.op];exact hd)
  have pC:=xP s ch A6
  have h1:=HR.out
  rw[dD]at h1
  have H1:=ae h1
  clear h1 HR
  generalize eT s ch A6=X at *
  obtain⟨B,x⟩:=X
  dsimp only at *
  go_wp2_with fail
  refine pB.mono ?_
  intro e w7 ci
  by_cases hbB:B.sc.bad<0
  ·obtain⟨jP,P3,l2,rfl,pH,vz,jN,hx,ZG⟩:=ci.ok hbB
   dsimp only at *
   have AJ:(P++P2).length=A6.ns.length:=hI.cr.ar.len
   have qt:=hI.ac.cs jN (fun j hj=>by rw[AJ];exact hI.lt j hj) P3
   have hH:w.heap.size<=w7.heap.size:=Nat.le_trans hI.cs.kept.size jN.kept.size
   have gV:base<=w7.heap.size:=by have:=vz.bb;have:=vz.lt;omega
   have kL:acc.length<=402:=by have:=hI.len;omega
   clear pB ci
   unfold aO
   obtain⟨pq,lX⟩:∃pq,pq=(P++P2++P3).getD x 0:=⟨_,rfl⟩
   rw[<-lX]
   have HQ:=ae lX
   clear lX
   go_wp2_with (at_builtin;refine wpList_append_lies _ rfl _ _ _ rfl base 187 i0 _ 1 8 Tryz.underlying201 iC gH iD iz rfl (by omega) u4 acc.length (acc.map (aO (P++P2++P3))) (by rfl) (qt.own.alloc _) ⟨w7.heap.size,0,none⟩ 1 1 [.pointer (some ⟨pq,0,none⟩)] (by rfl) rfl (World.news_of_block (cs:=#[.pointer (some ⟨pq,0,none⟩)]) (t:=187) (fr:=(0,0)) (heap_alloc_new w7 _)) (by simp[Value.oneCell']) (by omega) (by simp[maxLen];omega) (by omega) (by simp;omega) (w7.heap.size+1) (by simp) ?_;intro gg cap w9 bW hgrow dA bj)
   obtain⟨Cc,CY,tl⟩:=qt.app (x:=x) vz hH (by unfold aO at bW ⊢;rw[<-HQ.out];exact bW) hgrow dA
   have ht7:=vz.t40
   have mA:(sg s B.sc 47).bad<0:=by rw[eJ];exact hbB
   have Cg:(sg s B.sc 47).t<=40:=by rw[nU];exact ht7
   have nS:rk s (sg s B.sc 47)<rk s A6.sc:=kC hI.ok.iv hI.bad (fun _=>by have:=js.prog hbB;have:=BJ s B.sc 47;omega)
   have la:=(hI.ok.next js hbB (by decide)).sc (Fs.sg js.iv 47) (nU s B.sc 47)
   have OG:(sg s B.sc 47).op=A.sc.op:=by rw[qa,js.op,hI.op]
   have hP:P++P2++P3=P++(P2++P3):=List.append_assoc ..
   have SK:ms++l6 A.ns.length l++l6 A6.ns.length l2=ms++l6 A.ns.length (l++l2):=by
    rw[nu,List.append_assoc,hI.ns,List.length_append]
   have KE:B.ns=A.ns++(l++l2):=by rw[pH,hI.ns,List.append_assoc]
   have Ku:∀j∈acc++[x],j<B.ns.length:=by
    intro j hj
    rcases List.mem_append.1 hj with h | h
    ·have:=hI.lt j h;have:=js.len;omega
    ·rw[List.mem_singleton.1 h];exact hx
   have Kq:∀j∈acc++[x],(B.ns.getD j cj).kind=4->(P++(P2++P3)).getD j 0∈jP.L:=by
    intro j hj h4
    rw[<-hP]
    rcases List.mem_append.1 hj with h | h
    ·have C8:=hI.lt j h
     rw[pH,bo C8]at h4
     rw[bo (by omega)]
     obtain⟨t,ht⟩:=jN.pre
     rw[ht]
     exact List.mem_append_left _ (hI.k4 j h h4)
    ·rw[List.mem_singleton.1 h,pC]at h4
     exact absurd h4 (by decide)
   have WP:Cs b mv jP w w9:=by
    have h0:=hI.cs.trans jN
    exact⟨h0.kept.then9 tl qt.new,fun k hk=>h0.own k hk,h0.pre⟩
   rw[hP]at Cc CY
   rw[SK]at CY
   generalize hv10:Value.slice (some ⟨gg,0,none⟩) (acc.length+1) cap=v10 at *
   obtain⟨Vd,V9,E2⟩:∃p c,v10=.slice p (acc.length+1) c:=⟨_,_,hv10.symm⟩
   clear hv10 bW hgrow dA bj qt vz HQ tl
   refine(cW b s jP B.sc 47 _ CY.ris hs js.iv hbB (by decide)).mono ?_
   rintro e w11 ⟨rfl,JZ,jn⟩
   have nN:=CY.only jn JZ Cg
   have ul:=Cc.only jn
   have rf:=WP.trans (Cs.only (mv:=jP) jn)
   clear CY Cc JZ jn
   cases lY:il s B.sc 47
   ·have H2:Hid (jU s ch A=aP { B with sc:=sg s B.sc 47 } { cj with kind:=4,subs:=acc++[x] }):=by
     have h1:=H1.out
     rw[lY]at h1
     simp only[Bool.false_eq_true,if_false]at h1
     unfold Hid;rw[HP.out,<-h1]
    have RQ:=(nN.apart (T':=T) (fun k h=>.inl h)).add { cj with kind:=4,subs:=acc++[x] } (World.ownsRow_nil _ _ _ _) (by simp[Value.ownBlock]) ul.own (fun j hj=>⟨(ul.nb j hj).1,(ul.nb j hj).2,fun hT=>by have:=hC.told j hT;have:=ul.new j hj;omega⟩) Ku Kq
    have Ks:(P++(P2++P3)).length=B.ns.length:=nN.ar.len
    subst E2
    clear H1 HP HL lY
    go_wp2_with fail
    refine(eA _ _ _ _ _).mono ?_
    rintro e w13 ⟨rfl,rfl⟩
    go_wp2
    go_ret2
    rw[H2.out]
    have qbS:=rf.kept.size
    refine⟨⟨fun _=>⟨jP,P2++P3++[w11.heap.size],l++l2++[{ cj with kind:=4,subs:=acc++[x] }],?_,?_,?_,rf.trans (Cs.only ((aa.refl (·=b) w11).alloc _)),by simp[aP],?_⟩,fun h=>absurd (show 0<=(sg s B.sc 47).bad from h) (by omega)⟩,fun _=>⟨w11.heap.size,rfl,qbS⟩⟩
    ·unfold aO aP;simp only
     rw[<-List.append_assoc P,cn (by omega),Ks]
     simp
    ·show B.ns++_=_
     rw[KE,List.append_assoc,List.append_assoc]
    ·rw[<-List.append_assoc P,nu,pQ (show (4:Nat)≠3 by decide),List.append_nil]
     exact RQ
    ·unfold aP;simp only
     rw[<-List.append_assoc P,cn (by omega),Ks]
     intro hx
     have:=nN.bk.le nN.ar _ hx
     simp at this
   ·have H2:Hid (dD s ch (m-1+1) (acc++[x]) { B with sc:=sg s B.sc 47 }=L):=by
     have h1:=H1.out
     rw[lY]at h1
     simp only[if_true]at h1
     unfold Hid
     rw[show m-1+1=m by have:=hI.rkl;omega]
     exact h1
    have HM:Hid (rk s (sg s B.sc 47)<rk s A6.sc/\rk s A6.sc<=m/\acc.length+rk s A6.sc<=402):=⟨nS,hI.rkl,hI.len⟩
    clear H1 HP HL lY nS
    subst E2
    go_wp2
    go_roundg (m-1)
    case measure=>have:=HM.out;omega
    case rel=>
     have:=HM.out
     exact⟨acc++[x],{ B with sc:=sg s B.sc 47 },jP,P2++P3,l++l2,⟨by dsimp only;omega,by simp;omega,la,mA,OG,nN,KE,ul,Ku,rf,Kq⟩,H2.out⟩
  ·obtain⟨v,c,rfl,mv',g',f1,f2,f3,f4⟩:=ci.no (show 0<=B.sc.bad by omega)
   dsimp only at *
   have H2:Hid ((jU s ch A).1.sc.bad=B.sc.bad):=by
    have h1:=H1.out
    have hq:il s B.sc 47=false:=nB 47 (by omega)
    rw[hq]at h1
    simp only[Bool.false_eq_true,if_false]at h1
    unfold Hid;rw[HP.out,<-h1];show (sg s B.sc 47).bad=_;rw[eJ]
   have sL:=hI.cs.trans f3
   have qbn:=hI.op
   have hH:w.heap.size<=w7.heap.size:=sL.kept.size
   have gV:base<=w7.heap.size:=by have:=hI.cr.bb;have:=hI.cr.lt;have:=f3.kept.size;omega
   have kL:acc.length<=402:=by have:=hI.len;omega
   have AJ:(P++P2).length=A6.ns.length:=hI.cr.ar.len
   have qt:=hI.ac.cs f3 (fun j hj=>by rw[AJ];exact hI.lt j hj) []
   rw[List.append_nil]at qt
   clear H1 HP HL pB ci
   cases c
   ·go_wp2
    go_ret2
    exact⟨⟨fun h=>absurd h (by rw[H2.out];omega),fun _=>⟨_,false,rfl,mv',g',f1,by rw[H2.out];exact f2,sL,fun h=>absurd h (by simp)⟩⟩,fun h=>absurd h (by rw[H2.out];omega)⟩
   ·obtain⟨ut,pv,rfl⟩:=f4 rfl
    rw[qbn]at ut
    clear f4
    go_wp2_with (at_builtin;refine wpList_append_lies _ rfl _ _ _ rfl base 187 i0 _ 1 8 Tryz.underlying201 iC gH iD iz rfl (by omega) u4 acc.length (acc.map (aO (P++P2))) (by rfl) (qt.own.alloc _) ⟨w7.heap.size,0,none⟩ 1 1 [.pointer pv] (by rfl) rfl (World.news_of_block (cs:=#[.pointer pv]) (t:=187) (fr:=(0,0)) (heap_alloc_new w7 _)) (by simp[Value.oneCell']) (by omega) (by simp[maxLen];omega) (by omega) (by simp;omega) (w7.heap.size+1) (by simp) ?_;intro gg cap w9 bW hgrow dA bj)
    have tl:aa (fun k=>u4.ownBlock=some k) w7 w9:=((aa.refl _ w7).alloc _).grown hgrow (fun k hk _=>hk)
    have C2:dT w9 b s mv' g':=f1.kept tl (fun hx=>(qt.nb b hx).1 rfl)
    have WP:Cs b mv mv' w w9:=⟨sL.kept.then9 tl qt.new,fun k hk=>sL.own k hk,sL.pre⟩
    have hq:=ut.sgB ut.n47
    have ki:=ut.sg ut.n47
    clear bW hgrow dA bj tl
    refine(cW b s mv' g' 47 _ C2 hs ut.iv ut.bad (by decide)).mono ?_
    rintro e w11 ⟨rfl,JZ,jn⟩
    rw[ki]at JZ
    rw[hq]
    go_wp2_with fail
    refine(eA _ _ _ _ _).mono ?_
    rintro e w13 ⟨rfl,rfl⟩
    go_wp2
    go_ret2
    refine⟨?_,fun h=>absurd h (by rw[H2.out];omega)⟩
    exact⟨fun h=>absurd h (by rw[H2.out];omega),fun _=>⟨_,_,rfl,mv',g',JZ.alloc _,by rw[H2.out];exact f2,(WP.trans (Cs.only (mv:=mv') jn)).trans (Cs.only ((aa.refl (·=b) w11).alloc _)),fun _=>⟨ut,_,rfl⟩⟩⟩
theorem wV (s:ByteArray):∀d,ou 141 s (dw s (d+1)) d
 | 0=>fun base b mv T P ms A w hC hO hb hd=>Ag (.inl rfl) (.inl rfl) base b mv T P ms A w hC hO hb hd
 | d+1=>fun base b mv T P ms A w hC hO hb hd=>Ag (d:=d+1) (.inr (wV s d)) (.inr (eH s d)) base b mv T P ms A w hC hO hb hd
end Go.Proofs.YtagklnaaoclmhaaGreatDoor
namespace Go.Proofs.YtagklnaaoclmhaaGreatDoor
open Go.RowKit Go.Shelf
def qbX:Ren:=⟨fun _=>167,fun n=>if n=37 then 110 else if n=127 then 302 else n,fun n=>n⟩
theorem YA:LaysM.n316 Tryz.prog qbX where
 mixed:=by kernel_rfl
 f316:=by kernel_rfl
 t0:=by kernel_rfl
 a0:=fun _=>by kernel_rfl
 z0:=fun _=>by kernel_rfl
 v0:=fun _=>by kernel_rfl
 t3:=by kernel_rfl
 a3:=fun _=>by kernel_rfl
 z3:=fun _=>by kernel_rfl
 v3:=fun _=>by kernel_rfl
 t4:=by kernel_rfl
 a4:=fun _=>by kernel_rfl
 z4:=fun _=>by kernel_rfl
 v4:=fun _=>by kernel_rfl
 t9:=by kernel_rfl
 a9:=fun _=>by kernel_rfl
 z9:=fun _=>by kernel_rfl
 v9:=fun _=>by kernel_rfl
 t37:=by kernel_rfl
 a37:=fun _=>by kernel_rfl
 z37:=fun _=>by kernel_rfl
 v37:=fun _=>by kernel_rfl
 t127:=by kernel_rfl
 a127:=fun _=>by kernel_rfl
 z127:=fun _=>by kernel_rfl
 v127:=fun _=>by kernel_rfl
 t5:=by kernel_rfl
 a5:=fun _=>by kernel_rfl
 z5:=fun _=>by kernel_rfl
 v5:=fun _=>by kernel_rfl
 i0:=by kernel_rfl
 i3:=by kernel_rfl
 i4:=by kernel_rfl
 i5:=by kernel_rfl
 i9:=by kernel_rfl
 i37:=by kernel_rfl
 i127:=by kernel_rfl
theorem CJ (s:ByteArray)(w:World)(hlim:s.size<=400):
  Calls Tryz.prog 167 #[.string s] w fun e w'=>e=.returned (.string s)/\Below w.heap.size w w':=
 Any.stringslite_Clone YA s w (by omega)
theorem CD {w w':World}(h:Below w.heap.size w w'):aa (fun _=>False) w w':=⟨h.os,h.tape,h.output,h.size,fun k hk _=>h.block k hk⟩
theorem Gc (s:ByteArray)(w:World)(hlim:s.size<=400):
  Calls Tryz.prog 142 #[.string s] w fun e w'=>e=.returned (.string s)/\aa (fun _=>False) w w':=by
 go_enter Tryz.func142,Tryz.ntmps142
 go_wp2_with fail
 refine(CJ s _ hlim).mono ?_
 rintro e w1 ⟨rfl,hB⟩
 go_wp2
 go_ret
 exact⟨rfl,CD hB⟩
end Go.Proofs.YtagklnaaoclmhaaGreatDoor
namespace Go.Proofs.YtagklnaaoclmhaaGreatDoor
open Go.RowKit
theorem Q4 {s:ByteArray}:∀f acc g,(wd s f acc g).2.at_+acc.length=g.at_+(wd s f acc g).1.length
 | 0,acc,g=>rfl
 | f+1,acc,g=>by
  rw[wd]
  split
  ·split
   ·show (wr g).at_+_=_
    rw[eS]
   ·have:=Q4 (s:=s) f (acc++[(pk s g).toUInt8]) (bM g)
    rw[List.length_append,bZ]at this
    simp only[List.length_cons,List.length_nil]at this
    omega
  ·show (if acc=[] then wr g else g).at_+_=_
   split
   ·rw[eS]
   ·rfl
theorem CR.room {w:World}{base b:Nat}{s:ByteArray}{mv:Mv}{T:Nat->Prop}{P:List Nat}{ms:List Mn}{A:St}(h:CR w base b s mv T P ms A)(o:Obj):CR (w.alloc o) base b s mv (fun k=>T k\/k=w.heap.size) P ms A:=by
 have hk:aa (fun _=>False) w (w.alloc o):=(aa.refl _ _).alloc _
 refine⟨h.ris.alloc _,h.own.alloc _,h.nb,h.ar.kept hk (fun _ _ _ x=>x) (fun j hj x=>⟨x.1,x.2.1,fun y=>?_⟩),fun k fU=>?_,h.mlt,h.bb,h.t40,h.mlen,h.bk.kept h.ar hk (fun _ _ _ x=>x)⟩
 ·rcases y with y | y
  ·exact x.2.2 y
  ·omega
 ·rcases fU with y | y
  ·have:=h.told k y;simp;omega
  ·rw[y];simp
theorem CR.off {S:Nat->Prop}{w w':World}{base b:Nat}{s:ByteArray}{mv:Mv}{T:Nat->Prop}{P:List Nat}{ms:List Mn}{A:St}(h:CR w base b s mv T P ms A)(hk:aa S w w')(h1:¬S b)(h2:∀j,mv.v.ownBlock=some j->¬S j)(h3:∀j,S j->T j):CR w' base b s mv T P ms A:=
 ⟨h.ris.kept hk h1,aC h.own hk (fun i hi e=>h2 i hi e),h.nb,h.ar.kept hk (fun j _ x y=>x.2.2 (h3 j y)) (fun _ _ x=>x),fun k fU=>Nat.lt_of_lt_of_le (h.told k fU) hk.size,h.mlt,h.bb,h.t40,h.mlen,h.bk.kept h.ar hk (fun j _ x y=>x.2.2 (h3 j y))⟩
theorem Cs.new {b:Nat}{mv mv':Mv}{w w1 w2:World}{k0:Nat}(h:Cs b mv mv' w w1)(hk:aa (·=k0) w1 w2)(hn:w.heap.size<=k0):Cs b mv mv' w w2:=
 ⟨⟨hk.os.trans h.kept.os,hk.tape.trans h.kept.tape,hk.output.trans h.kept.output,Nat.le_trans h.kept.size hk.size,fun i hi hs=>by
  rw[hk.block i (Nat.lt_of_lt_of_le hi h.kept.size) (by omega)];exact h.kept.block i hi hs⟩,h.own,h.pre⟩
theorem Cs.there {b:Nat}{mv mv':Mv}{w w1:World}{o:Obj}(h:Cs b mv mv' (w.alloc o) w1)(hb:b<w.heap.size)(hm:∀j,mv.v.ownBlock=some j->j<w.heap.size):w1.heap[w.heap.size]?=some o:=by
 rw[h.kept.block w.heap.size (by simp) (fun x=>by
  rcases x with x | x
  ·omega
  ·have:=hm _ x;omega)]
 exact heap_alloc_new _ _
theorem kV {w:World}{k t:Nat}{u v x:Value}(h:w.heap[k]?=some (.cells #[u,v,x] t)):w.cell? ⟨k,0,none⟩=some u/\w.cell? ⟨k,1,none⟩=some v/\w.cell? ⟨k,2,none⟩=some x/\w.frozen? ⟨k,0,none⟩=false/\w.frozen? ⟨k,1,none⟩=false/\w.frozen? ⟨k,2,none⟩=false:=by
 refine⟨?_,?_,?_,?_,?_,?_⟩ <;> simp[World.cell?,World.frozen?,h]
theorem lF (w:World)(k:Nat)(u v x:Value):aa (·=k) w (((w.setCell ⟨k,0,none⟩ u).setCell ⟨k,1,none⟩ v).setCell ⟨k,2,none⟩ x):=
 (((aa.refl (·=k) w).setCell (p:=⟨k,0,none⟩) (fun _=>rfl) _).setCell (p:=⟨k,1,none⟩) (fun _=>rfl) _).setCell (p:=⟨k,2,none⟩) (fun _=>rfl) _
def uW (P:List Nat)(r:Rl):List Value:=[.string (ba r.name),.int .i64 (r.at_:Int),aO P r.is]
structure VZ (base b:Nat)(s:ByteArray)(mv:Mv)(T:Nat->Prop)(P:List Nat)(ms:List Mn)(A:St)(w:World)(X:St × Rl)(e:Ending)(w':World):Prop where
 ok:X.1.sc.bad<0->∃mv' P2 l,e=.returned (.tuple #[.agg (uW (P++P2) X.2).toArray,.bool true])/\X.1.ns=A.ns++l/\CR w' base b s mv' T (P++P2) (ms++[⟨X.2.name,X.2.at_,none⟩]++l6 A.ns.length l) X.1/\Cs b mv mv' w w'/\X.2.is<X.1.ns.length
 no:0<=X.1.sc.bad->∃c0 c1 c2,e=.returned (.tuple #[.agg #[.string c0,.int .i64 c1,.pointer c2],.bool false])/\tI w w' b s mv X.1.sc.bad
theorem Hp (s:ByteArray)(base b:Nat)(mv:Mv)(T:Nat->Prop)(P:List Nat)(ms:List Mn)(A:St)(w:World)(hC:CR w base b s mv T P ms A)(hO:Ok s A)(ho:A.sc.op=0)(hb:A.sc.bad<0)(hm:ms.length+1<=A.ns.length+8):
  Calls Tryz.prog 95 #[.pointer (some ⟨b,0,none⟩)] w fun e w'=>VZ base b s mv T P ms A w (de s A) e w':=by
 have hs:=hO.size
 obtain⟨jp,-,-,yK,-⟩:=jQ hO ho hb
 have M7:=hC.lt
 have ET:∀j,mv.v.ownBlock=some j->j<w.heap.size:=fun j hj=>(hC.own.lt j hj).2
 have hC0:=hC.room (.cells #[.string ⟨#[]⟩,.int .i64 0,.pointer none] 189)
 have rd:Cs b mv mv w (w.alloc (.cells #[.string ⟨#[]⟩,.int .i64 0,.pointer none] 189)):=Cs.only ((aa.refl (·=b) w).alloc _)
 have dE:(bl s A.sc).bad<0:=by rw[ed];exact hb
 have ju:(bl s A.sc).t<=40:=by rw[jR];exact hC.t40
 have Ci:=hO.iv.bl
 have hX:de s A=({ (dw s 6 { A with sc:=mu s (wd s 10 [] (bl s A.sc)).2 61 }).1 with sc:=mu s (dw s 6 { A with sc:=mu s (wd s 10 [] (bl s A.sc)).2 61 }).1.sc 10 },⟨(wd s 10 [] (bl s A.sc)).1,(bl s A.sc).at_,(dw s 6 { A with sc:=mu s (wd s 10 [] (bl s A.sc)).2 61 }).2⟩):=by
  have:=Q4 (s:=s) 10 [] (bl s A.sc)
  simp only[List.length_nil,Nat.add_zero]at this
  unfold de bz
  rw[this,Nat.add_sub_cancel]
 have K8:=qn (s:=s) 10 [] (bl s A.sc) Ci
 have GC:=FU (s:=s) 10 [] (bl s A.sc) (by simp)
 unfold bz at jp yK
 have d9:=eH s 5 { A with sc:=mu s (wd s 10 [] (bl s A.sc)).2 61 } jp.iv (by rw[show ({ A with sc:=mu s (wd s 10 [] (bl s A.sc)).2 61 }:St).sc.op=0 from yK];decide)
 go_enter Tryz.func95,Tryz.ntmps95
 go_wp2_with fail
 refine(gK b s mv A.sc _ hC0.ris hs (hO.iv.1 hb) hb).mono ?_
 rintro e w1 ⟨rfl,jM,dd⟩
 have se:=hC0.only dd jM ju
 have iL:=Cs.only (mv:=mv) dd
 obtain⟨c0,c1,c2,c3,c4⟩:=jM.cells
 obtain⟨L,hL⟩:∃L,wd s 10 [] (bl s A.sc)=L:=⟨_,rfl⟩
 have xq:=Bn base b s mv ms.length _ (bl s A.sc) none _ se.ris se.own se.nb se.bb hs Ci dE (by have:=hO.len;have:=hC.mlen;omega)
 rw[hL]at hX K8 GC jp yK xq d9
 have HX:=ae hX
 clear hX hL
 go_wp2_with fail
 refine xq.mono ?_
 intro e w2 ci
 obtain⟨tx,rfl,Dp⟩:=ci.res
 clear c0 c1 c2 c3 c4 xq
 by_cases hLb:L.2.bad<0
 ·obtain⟨ss,dP,mx,XR,gA,qar⟩:=ci.ok hLb
  have ht:=Dp hLb
  subst ht
  have Au:=se.cs (ms':=ms++[⟨L.1,(bl s A.sc).at_,none⟩]) gA dP (by
   rw[List.flatMap_append,List.length_append];exact mx) XR qar (fun m rt i eM=>by
    rcases List.mem_append.1 rt with h | h
    ·exact se.mlt m h i eM
    ·rw[List.mem_singleton.1 h]at eM;cases eM) (by rw[K8.2.2.2.1];exact ju) (by simp;omega)
  have vX:=iL.trans gA
  have hd:decide (L.2.bad<0)=true:=by simpa using hLb
  rw[hd]
  have hiL:=K8.1
  clear ci Dp hd hC0 se jM dd mx gA iL
  go_wp2_with fail
  refine(cW b s ss L.2 61 _ dP hs hiL hLb (by decide)).mono ?_
  rintro e w3 ⟨rfl,nh,eU⟩
  have sK:=vX.trans (Cs.only (mv:=ss) eU)
  cases hq:il s L.2 61
  ·have HB:Hid ((de s A).1.sc.bad=(sg s L.2 61).at_):=by
    have h1:(mu s L.2 61).bad=(sg s L.2 61).at_:=by
     unfold mu;rw[hq];simp only[Bool.false_eq_true,if_false]
     rw[gO (by rw[eJ];exact hLb)]
    unfold Hid;rw[HX.out]
    show (mu s _ 10).bad=_
    have h2:=d9.same (show 0<=(mu s L.2 61).bad by omega)
    have h3:(dw s 6 { A with sc:=mu s L.2 61 }).1.sc=mu s L.2 61:=h2
    rw[h3,jf 10 (by omega)];exact h1
   have hc:=sK.there M7 ET
   obtain⟨k0,k1,k2,l0,l1,l2⟩:=kV hc
   clear HX d9 jp yK
   go_wp2
   refine bodyPost_ret (v:=.tuple #[.agg #[.string ⟨#[]⟩,.int .i64 0,.pointer none],.bool false]) (by simp[results,Tryz.results95,go_sem,k0,k1,k2]) rfl ⟨fun h=>absurd h (by rw[HB.out];omega),fun _=>⟨_,_,_,rfl,ss,_,nh.kept (lF w3 w.heap.size _ _ _) (by omega),by rw[HB.out],(rd.trans sK).new (lF w3 w.heap.size _ _ _) (Nat.le_refl _)⟩⟩
  ·have hmu:mu s L.2 61=sg s L.2 61:=by unfold mu;rw[hq];rfl
   rw[hmu]at jp yK d9
   have dY:(sg s L.2 61).bad<0:=by rw[eJ];exact hLb
   have qY:=Au.only eU nh (by rw[nU,K8.2.2.2.1];exact ju)
   have J3:=HX.out
   rw[hmu]at J3
   have zF:=ae J3
   have dH:=wV s 5 base b ss _ P _ { A with sc:=sg s L.2 61 } w3 qY jp dY (by rw[show ({ A with sc:=sg s L.2 61 }:St).sc.op=0 from yK];decide)
   have vC:=d9.iv
   have hfo:(dw s (5+1) { A with sc:=sg s L.2 61 }).1.sc.op=0:=by rw[d9.op];exact yK
   clear HX J3 Au dP eU d9 jp
   change Hid (de s A=({ (dw s (5+1) { A with sc:=sg s L.2 61 }).1 with sc:=mu s (dw s (5+1) { A with sc:=sg s L.2 61 }).1.sc 10 },⟨L.1,(bl s A.sc).at_,(dw s (5+1) { A with sc:=sg s L.2 61 }).2⟩)) at zF
   generalize dw s (5+1) { A with sc:=sg s L.2 61 }=Y at *
   obtain⟨B,x⟩:=Y
   dsimp only at *
   generalize sg s L.2 61=g3 at *
   go_wp2_with fail
   refine dH.mono ?_
   intro e w4 hCh
   clear dH
   by_cases hbB:B.sc.bad<0
   ·obtain⟨O5,P2,l,rfl,pH,CX,ur,hx,ZG⟩:=hCh.out.ok hbB
    dsimp only at *
    have us:=sK.trans ur
    have ht4:=CX.t40
    unfold aO
    go_wp2_with fail
    refine(cW b s O5 B.sc 10 _ CX.ris hs vC hbB (by decide)).mono ?_
    rintro e w5 ⟨rfl,fJ,gR⟩
    have gP:=us.trans (Cs.only (mv:=O5) gR)
    have hc:=gP.there M7 ET
    cases so:il s B.sc 10
    ·have HB:Hid ((de s A).1.sc.bad=(sg s B.sc 10).at_):=by
      unfold Hid;rw[zF.out];show (mu s B.sc 10).bad=_
      unfold mu;rw[so];simp only[Bool.false_eq_true,if_false]
      rw[gO (by rw[eJ];exact hbB)]
     obtain⟨k0,k1,k2,l0,l1,l2⟩:=kV hc
     clear zF hCh
     go_wp2
     refine bodyPost_ret (v:=.tuple #[.agg #[.string ⟨#[]⟩,.int .i64 0,.pointer none],.bool false]) (by simp[results,Tryz.results95,go_sem,k0,k1,k2]) rfl ⟨fun h=>absurd h (by rw[HB.out];omega),fun _=>⟨_,_,_,rfl,O5,_,fJ.kept (lF w5 w.heap.size _ _ _) (by omega),by rw[HB.out],(rd.trans gP).new (lF w5 w.heap.size _ _ _) (Nat.le_refl _)⟩⟩
    ·have HB:Hid (de s A=({ B with sc:=sg s B.sc 10 },⟨L.1,(bl s A.sc).at_,x⟩)):=by
      unfold Hid;rw[zF.out];unfold mu;rw[so];rfl
     have M0:=CX.only gR fJ (by rw[nU];exact ht4)
     have EN:(sg s B.sc 10).bad<0:=by rw[eJ];exact hbB
     clear zF hCh CX fJ gR
     go_wp2_with fail
     refine(Gc (ba L.1) _ (by show (L.1.toArray).size<=400;simp;omega)).mono ?_
     rintro e w6 ⟨rfl,um⟩
     have hC6:=M0.off um (fun h=>h) (fun _ _ h=>h) (fun _ h=>h.elim)
     have EM:=gP.trans (Cs.only (mv:=O5) (um.mono (fun _ _ h=>h.elim)))
     have Oc:=EM.there M7 ET
     obtain⟨k0,k1,k2,l0,l1,l2⟩:=kV Oc
     clear hc gP M0
     go_wp2
     refine bodyPost_ret (v:=.tuple #[.agg #[.string (ba L.1),.int .i64 ((bl s A.sc).at_:Int),.pointer (some ⟨(P++P2).getD x 0,0,none⟩)],.bool true]) (by simp[results,Tryz.results95,go_sem,k0,k1,k2]) rfl ?_
     rw[HB.out]
     refine⟨fun _=>⟨O5,P2,l,rfl,pH,?_,(rd.trans EM).new (lF w6 w.heap.size _ _ _) (Nat.le_refl _),hx⟩,fun h=>absurd (show 0<=(sg s B.sc 10).bad from h) (by omega)⟩
     have qba:O5.v.ownBlock≠some w.heap.size:=fun h=>by
      rcases EM.own _ h with h | h
      ·have:=ET _ h;omega
      ·simp at h;omega
     exact(hC6.off (lF w6 w.heap.size _ _ _) (by omega) (fun j hj e=>qba (by rw[hj,e])) (fun j e=>.inr e)).apart (fun k hk=>.inl hk)
   ·obtain⟨v,c,rfl,mv',g',fo,dA,ur,jb⟩:=hCh.out.no (show 0<=B.sc.bad by omega)
    dsimp only at *
    have us:=sK.trans ur
    have HB:Hid ((de s A).1.sc.bad=B.sc.bad):=by
     unfold Hid;rw[zF.out];show (mu s B.sc 10).bad=_
     rw[jf 10 (by omega)]
    clear zF hCh
    cases c
    ·have hc:=us.there M7 ET
     obtain⟨k0,k1,k2,l0,l1,l2⟩:=kV hc
     go_wp2
     refine bodyPost_ret (v:=.tuple #[.agg #[.string ⟨#[]⟩,.int .i64 0,.pointer none],.bool false]) (by simp[results,Tryz.results95,go_sem,k0,k1,k2]) rfl ⟨fun h=>absurd h (by rw[HB.out];omega),fun _=>⟨_,_,_,rfl,mv',g',fo.kept (lF w4 w.heap.size _ _ _) (by omega),by rw[HB.out];exact dA,(rd.trans us).new (lF w4 w.heap.size _ _ _) (Nat.le_refl _)⟩⟩
    ·obtain⟨ut,p,rfl⟩:=jb rfl
     have hq:=ut.sgB ut.n10
     have ki:=ut.sg ut.n10
     go_wp2_with fail
     refine(cW b s mv' g' 10 _ fo hs ut.iv ut.bad (by decide)).mono ?_
     rintro e w5 ⟨rfl,fJ,gR⟩
     rw[ki]at fJ
     rw[hq]
     have gP:=us.trans (Cs.only (mv:=mv') gR)
     have hc:=gP.there M7 ET
     obtain⟨k0,k1,k2,l0,l1,l2⟩:=kV hc
     go_wp2
     refine bodyPost_ret (v:=.tuple #[.agg #[.string ⟨#[]⟩,.int .i64 0,.pointer none],.bool false]) (by simp[results,Tryz.results95,go_sem,k0,k1,k2]) rfl ⟨fun h=>absurd h (by rw[HB.out];omega),fun _=>⟨_,_,_,rfl,mv',g',fJ.kept (lF w5 w.heap.size _ _ _) (by omega),by rw[HB.out];exact dA,(rd.trans gP).new (lF w5 w.heap.size _ _ _) (Nat.le_refl _)⟩⟩
 ·have HB:Hid ((de s A).1.sc.bad=L.2.bad):=by
   have h1:mu s L.2 61=L.2:=jf 61 (by omega)
   unfold Hid;rw[HX.out]
   show (mu s _ 10).bad=_
   have h2:=d9.same (show 0<=(mu s L.2 61).bad by rw[h1];omega)
   have h3:(dw s 6 { A with sc:=mu s L.2 61 }).1.sc=mu s L.2 61:=h2
   rw[h3,h1,jf 10 (by omega)]
  obtain⟨mv',g',dP,dA,gA⟩:=ci.no (by omega)
  have vX:=iL.trans gA
  have hd:decide (L.2.bad<0)=false:=by simpa using hLb
  rw[hd]
  have hc:=vX.there M7 ET
  obtain⟨k0,k1,k2,l0,l1,l2⟩:=kV hc
  clear HX d9 jp yK ci Dp
  go_wp2
  refine bodyPost_ret (v:=.tuple #[.agg #[.string ⟨#[]⟩,.int .i64 0,.pointer none],.bool false]) (by simp[results,Tryz.results95,go_sem,k0,k1,k2]) rfl ⟨fun h=>absurd h (by rw[HB.out];omega),fun _=>⟨_,_,_,rfl,mv',g',dP.kept (lF w2 w.heap.size _ _ _) (by omega),by rw[HB.out];exact dA,(rd.trans vX).new (lF w2 w.heap.size _ _ _) (Nat.le_refl _)⟩⟩
end Go.Proofs.YtagklnaaoclmhaaGreatDoor
