import Derived.Test.YtagklnaaoclmhaaGreatDoorMnAR
set_option linter.unusedSimpArgs false
set_option linter.unusedVariables false
set_option maxRecDepth 100000
set_option maxHeartbeats 16000000
namespace Go.Proofs.YtagklnaaoclmhaaGreatDoor
open Go.RowKit
def ig (n:iN):List Value:=[.int .i64 (n.rule:Int),.int .i64 (n.from_:Int),.int .i64 n.to,.int .i64 (n.dep:Int)]
theorem La:(Tryz.prog.info? 61).map (fun i=>(i.zero,i.size,i.bytes))=some (some (.agg #[.int .i64 0,.int .i64 0,.int .i64 0,.int .i64 0]),4,32):=by kernel_rfl
theorem NY (dp:Nat)(r:Rs):(i8 dp r).length=(i8 0 r).length:=by
 have:=JF dp r 0
 rw[Nat.zero_add]at this
 rw[this,List.length_map]
theorem EE (dp:Nat)(l:List Rs):(kt dp l).length=(kt 0 l).length:=by
 have:=ug dp l 0
 rw[Nat.zero_add]at this
 rw[this,List.length_map]
structure Vk (base n:Nat)(xs:List Value)(v:Value)(F:List iN)(w:World)(e:Ending)(w':World):Prop where
 ex:∃v',e=.returned v'/\w'.ownsRow base 61 4 v' (n+F.length) (xs++F.flatMap ig)/\(∀k,v'.ownBlock=some k->v.ownBlock=some k\/w.heap.size<=k)
 kept:aa (fun k=>v.ownBlock=some k) w w'
structure Y0 (base n:Nat)(xs:List Value)(v0:Value)(F:List iN)(w:World)(v:Value)(wx:World):Prop where
 own:wx.ownsRow base 61 4 v (n+F.length) (xs++F.flatMap ig)
 grow:∀k,v.ownBlock=some k->v0.ownBlock=some k\/w.heap.size<=k
 kept:aa (fun k=>v0.ownBlock=some k) w wx
theorem Y0.rs {base n n0:Nat}{xs xs0:List Value}{v0 v:Value}{F:List iN}{w wx:World}(h:Y0 base n xs v0 F w v wx)(h0:w.ownsRow base 61 4 v0 n0 xs0){m:Option Nat}{b:Nat}{r:Rs}(hr:fw w m b r):fw wx m b r:=
 hr.kept h.kept (fun j c hj e=>by
  obtain⟨c2,hc⟩:=ak h0 e
  have gB:w.heap[j]?=_:=hc
  rw[hj]at gB;simp at gB) (fun j c hj hm=>⟨fun e=>by
  obtain⟨c2,hc⟩:=ak h0 e
  have gB:w.heap[j]?=_:=hc
  rw[hj]at gB;simp at gB,hm⟩)
theorem qN (m:Option Nat):∀(N:Nat) (r:Rs) (b dp n base:Nat) (v:Value) (xs:List Value) (w:World),(i8 0 r).length<=N->fw w m b r->w.ownsRow base 61 4 v n xs->base<=w.heap.size->dp<=n->n+(i8 0 r).length<=100000->
  Calls Tryz.prog 107 #[aw b,v,.int .i64 (dp:Int)] w fun e w'=>Vk base n xs v (i8 dp r) w e w'
 | 0,r,b,dp,n,base,v,xs,w,hN,_,_,_,_,_=>by rw[uh]at hN;simp at hN
 | N+1,r,b,dp,n,base,v,xs,w,hN,hR,hO,sh,hdp,hn=>by
  obtain⟨i0,iC,gH,iD,iz⟩:=info_parts La
  have hFl:(i8 0 r).length=1+(kt 0 r.inner).length:=by rw[uh,List.length_cons,EE];omega
  obtain⟨c0,c1,c2,_⟩:=hR.cells
  obtain⟨p,cp,hv⟩:=an hO
  have HF:Hid (i8 dp r=[⟨r.rule,r.from_,r.to,dp⟩]++kt (dp+1) r.inner):=by unfold Hid;rw[uh];rfl
  obtain⟨v4,IB,qy,hIn,eI,dL⟩:∃v4 IB,w.cell? ⟨b,4,none⟩=some v4/\zO w m v4 IB/\IB.length=r.inner.length/\∀i (h:i<IB.length) (h':i<r.inner.length),fw w m IB[i] r.inner[i]:=by
   cases hR with
   | mk blk row len sub=>exact⟨_,_,by simp[World.cell?,blk],row,len,sub⟩
  have iB:=hR.lt
  subst hv
  have Ir:¬(Value.slice p n cp).ownBlock=some b:=fun e=>by
   obtain⟨c2,hc⟩:=ak hO e
   have gB:w.heap[b]?=_:=hc
   cases hR with
   | mk blk row len sub=>rw[blk]at gB;simp at gB
  have ku:∀w9 o,((w.alloc o).drew).grownBy w9 (Value.slice p n cp).ownBlock->aa (fun k=>(Value.slice p n cp).ownBlock=some k) w w9:=fun w9 o hg=>(((aa.refl _ w).alloc _).drew).grown hg (fun k h _=>h)
  have jr:∀w9,aa (fun k=>(Value.slice p n cp).ownBlock=some k) w w9->w9.cell? ⟨b,0,none⟩=some (.int .i64 (r.rule:Int))/\w9.cell? ⟨b,1,none⟩=some (.int .i64 (r.from_:Int))/\w9.cell? ⟨b,2,none⟩=some (.int .i64 r.to)/\w9.cell? ⟨b,4,none⟩=some v4:=fun w9 hk=>⟨(hk.cell (p:=⟨b,0,none⟩) iB Ir).trans c0,(hk.cell (p:=⟨b,1,none⟩) iB Ir).trans c1,(hk.cell (p:=⟨b,2,none⟩) iB Ir).trans c2,(hk.cell (p:=⟨b,4,none⟩) iB Ir).trans qy⟩
  obtain⟨p4,B7,Yj,dm⟩:=hIn
  subst Yj
  rw[eI]at jr
  unfold aw
  go_enter Tryz.func107,Tryz.ntmps107
  go_wp2_with fail
  go_region_held3 (fun w'=>w'.cell? ⟨b,0,none⟩=some (.int .i64 (r.rule:Int))/\w'.cell? ⟨b,1,none⟩=some (.int .i64 (r.from_:Int))/\w'.cell? ⟨b,2,none⟩=some (.int .i64 r.to)) (go_keep)
   ((refine step_append_lies _ (by rfl) _ _ _ (by rfl) base 61 i0 _ 4 32 Tryz.underlying28 iC gH iD iz (by rfl) (by omega) (.slice p n cp) n xs (by rfl) (hO.alloc _).drew ⟨w.heap.size,0,none⟩ 1 1 (ig ⟨r.rule,r.from_,r.to,dp⟩) (by rfl) (by simp[ig]) (World.news_of_block (cs:=#[.int .i64 (r.rule:Int),.int .i64 (r.from_:Int),.int .i64 r.to,.int .i64 (dp:Int)]) (t:=61) (fr:=(0,0)) (heap_alloc_new w _)) (by simp[ig,Value.oneCell']) (by omega) (by simp[maxLen];omega) (by omega) (by simp;omega) (w.heap.size+1) (by simp) ?_;intro gg cap w9 bW hgrow dA bj;have sf:=ku w9 _ hgrow;obtain⟨q0,q1,q2,q4⟩:=jr w9 sf))
  have MZ:Y0 base n xs (.slice p n cp) [⟨r.rule,r.from_,r.to,dp⟩] w (.slice (some ⟨gg,0,none⟩) (n+1) cap) w9:=by
   refine⟨by simpa using bW,fun k hk=>?_,sf⟩
   have fU:gg=k:=Option.some.inj hk
   rcases dA with h1 | h1
   ·left;rw[h1,fU]
   ·right;omega
  have KU:∀wx,aa (fun k=>(Value.slice p n cp).ownBlock=some k) w wx->∀i (h:i<IB.length),∃g,p4=some ⟨g,0,none⟩/\wx.cell? ⟨g,i,none⟩=some (.pointer (some ⟨IB[i],0,none⟩)):=fun wx hk i hi=>by
   rcases dm with e | ⟨g,gz,e1,e2,e3,e4⟩
   ·subst e;exact absurd hi (by simp)
   ·refine⟨g,e1,?_⟩
    have hx:wx.heap[g]?=w.heap[g]?:=hk.block g (ag (show ai w g=_ from e3)) (fun e=>by
     obtain⟨c2,hc⟩:=ak hO e
     have gB:w.heap[g]?=_:=hc
     rw[e3]at gB;simp at gB)
    simp only[World.cell?,hx,e3]
    exact e4 i hi
  obtain⟨L,hL⟩:∃L,L=r.inner.length:=⟨_,rfl⟩
  have hL5:L<=100000:=by
   have:∀l:List Rs,l.length<=(kt 0 l).length:=fun l=>by
    induction l with
    | nil=>simp[kt]
    | cons x l ih=>rw[kt,uh];simp;omega
   have:=this r.inner
   omega
  rw[<-hL]at q4
  have HL:=ae hL
  have HlI:=ae eI
  clear hL jr ku bW hgrow dA bj q0 q1 q2 eI
  go_wp2_with fail
  go_loopg [1,31] L (fun g v1 v31 wx=>∃k,k<=L/\g=L-k/\v31=.int .i64 (k:Int)/\Y0 base n xs (.slice p n cp) ([⟨r.rule,r.from_,r.to,dp⟩]++kt (dp+1) (r.inner.take k)) w v1 wx)
  case atStart=>
   exact⟨0,by omega,by omega,rfl,by simpa [kt] using MZ⟩
  case round=>
   obtain⟨k,hkL,zK,rfl,hI⟩:=hrel
   obtain⟨F,hF⟩:∃F,F=([⟨r.rule,r.from_,r.to,dp⟩]++kt (dp+1) (r.inner.take k):List iN):=⟨_,rfl⟩
   rw[<-hF]at hI
   have vQ:1<=F.length:=by rw[hF];simp
   obtain⟨p1,cp1,hv1⟩:=an hI.own
   have gh:=hI.kept.size
   by_cases hk:k<L
   ·have fU:k<r.inner.length:=by rw[<-HL.out];exact hk
    have UU:k<IB.length:=by rw[HlI.out];exact fU
    obtain⟨g4,hp4,Sg⟩:=KU wr hI.kept k UU
    have hRs:=hI.rs hO (dL k UU fU)
    have E0:r.inner.take (k+1)=r.inner.take k++[r.inner[k]]:=(List.take_append_getElem fU).symm
    have hFn:F++i8 (dp+1) r.inner[k]=[⟨r.rule,r.from_,r.to,dp⟩]++kt (dp+1) (r.inner.take (k+1)):=by
     rw[E0,ng,hF,List.append_assoc];simp[kt]
    have qcd:(kt 0 (r.inner.take (k+1))).length<=(kt 0 r.inner).length:=by
     have h1:r.inner=r.inner.take (k+1)++r.inner.drop (k+1):=(List.take_append_drop _ _).symm
     have h2:=congrArg (fun l=>(kt 0 l).length) h1
     simp only[ng,List.length_append]at h2
     omega
    have qcm:F.length+(i8 0 r.inner[k]).length<=(i8 0 r).length:=by
     have h1:=congrArg List.length hFn
     rw[List.length_append,List.length_append,NY,EE]at h1
     simp at h1
     omega
    have bO:=qN m N r.inner[k] IB[k] (dp+1) (n+F.length) base u1 (xs++F.flatMap ig) wr (by omega) hRs hI.own (by omega) (by omega) (by omega)
    unfold aw at bO
    obtain⟨bk,qx⟩:∃bk,bk=IB[k]:=⟨_,rfl⟩
    rw[<-qx]at bO Sg
    subst hv1 hp4
    have gC:((dp+1:Nat):Int)=(dp:Int)+1:=by omega
    rw[gC]at bO
    have Zu:(k:Int)<(L:Int):=by omega
    have hIk:=hI.kept
    have hIo:=hI.own
    have Zr:=hI.grow
    clear qx hRs hF dL KU MZ hI
    go_wp2_with fail
    refine bO.mono ?_
    rintro e w5 ⟨⟨v5,rfl,EI,hg5⟩,gR⟩
    obtain⟨p5,cp5,hv5⟩:=an EI
    subst hv5
    go_wp2_with fail
    go_roundg (L-(k+1))
    case measure=>omega
    case rel=>
     refine⟨k+1,by omega,rfl,by go_num,?_⟩
     rw[<-hFn]
     refine⟨by rw[List.flatMap_append,List.length_append,<-Nat.add_assoc,<-List.append_assoc];exact EI,fun j hj=>?_,hIk.then gR (fun j hj hx=>?_)⟩
     ·rcases hg5 j hj with h1 | h1
      ·exact Zr j h1
      ·right;omega
     ·rcases Zr j hx with h1 | h1
      ·exact h1
      ·omega
   ·have qa1:k=L:=by omega
    have eO:r.inner.take k=r.inner:=by rw[qa1,HL.out];exact List.take_length
    have HF2:Hid (i8 dp r=F):=by unfold Hid;rw[HF.out,hF,eO]
    have Zu:¬(k:Int)<(L:Int):=by omega
    have hIk:=hI.kept
    have hIo:=hI.own
    have Zr:=hI.grow
    subst hv1
    clear hF dL KU MZ hI
    go_wp2
    go_ret
    exact⟨⟨_,rfl,by rw[HF2.out];exact hIo,Zr⟩,hIk⟩
structure qC (w:World)(base:Nat)(to:Int)(L:List iN)(m:Nat)(B:Bool)(T:Int)(vt vf:Value):Prop where
 b:B=decide (to≠-1)
 t:T=if to=-1 then 0 else to
 tr:w.ownsRow base 61 4 vt (if to=-1 then [] else L).length ((if to=-1 then [] else L).flatMap ig)
 fl:w.ownsRow base 3 1 vf (vw m).length ((vw m).map wA)
structure AnO (base:Nat)(to:Int)(L:List iN)(far:Int × Nat)(w:World)(e:Ending)(w':World):Prop where
 ex:∃(B:Bool) (T:Int) (tp fp:Option Addr) (tn tc fn fc:Nat),e=.returned (.agg #[.bool B,.int .i64 T,.slice tp tn tc,.int .i64 far.1,.slice fp fn fc])/\qC w' base to L far.2 B T (.slice tp tn tc) (.slice fp fn fc)
 kept:aa (fun _=>False) w w'
theorem eY {w:World}{b b' e size n:Nat}{v:Value}{xs:List Value}(h:w.ownsRow b e size v n xs)(hb:b'<=b):w.ownsRow b' e size v n xs:=by
 refine⟨h.1,?_⟩
 rcases h.2 with hv | ⟨g,cap,gz,rfl,eL,rest⟩
 ·exact .inl hv
 ·exact .inr ⟨g,cap,gz,rfl,Nat.le_trans hb eL,rest⟩
structure NbX (m:Nat)(w0:World)(e:Ending)(w':World):Prop where
 ex:∃p n c,e=.returned (.slice p n c)/\w'.ownsRow w0.heap.size 3 1 (.slice p n c) (vw m).length ((vw m).map wA)
 kept:aa (fun _=>False) w0 w'
def gp (w:World)(q:Nat)(a b c d e:Value):World:=((((w.setCell ⟨q,0,none⟩ a).setCell ⟨q,1,none⟩ b).setCell ⟨q,2,none⟩ c).setCell ⟨q,3,none⟩ d).setCell ⟨q,4,none⟩ e
theorem dB (w:World)(q:Nat)(a b c d e:Value):aa (fun k=>k=q) w (gp w q a b c d e):=
 ((((((aa.refl (fun k=>k=q) w).setCell (p:=⟨q,0,none⟩) (fun _=>rfl) _).setCell (p:=⟨q,1,none⟩) (fun _=>rfl) _).setCell (p:=⟨q,2,none⟩) (fun _=>rfl) _).setCell (p:=⟨q,3,none⟩) (fun _=>rfl) _).setCell (p:=⟨q,4,none⟩) (fun _=>rfl) _)
theorem fj {w:World}{q t:Nat}{a' b' c' d' e':Value}(h:w.heap[q]?=some (.cells #[a',b',c',d',e'] t (0,0)))(a b c d e:Value):(gp w q a b c d e).heap[q]?=some (.cells #[a,b,c,d,e] t (0,0)):=by
 have e1:=aj h 0 a
 have e2:=aj e1 1 b
 have e3:=aj e2 2 c
 have e4:=aj e3 3 d
 have e5:=aj e4 4 e
 unfold gp
 simpa using e5
theorem bS {w:World}{q t:Nat}{a b c d e:Value}(h:w.heap[q]?=some (.cells #[a,b,c,d,e] t (0,0))):w.cell? ⟨q,0,none⟩=some a/\w.cell? ⟨q,1,none⟩=some b/\w.cell? ⟨q,2,none⟩=some c/\w.cell? ⟨q,3,none⟩=some d/\w.cell? ⟨q,4,none⟩=some e:=by
 refine⟨?_,?_,?_,?_,?_⟩ <;> simp[World.cell?,h]
theorem CA {I:Wi}(hI:Ic I){mv:Value}{s:Wt}{w:World}(h:cQ I mv s w)(hT:zS w)(rb:Nat)(r:Rs)(hr:fw w mv.ownBlock rb r)(hn:¬r.to=-1->(i8 0 r).length<=100000):
  Calls Tryz.prog 74 #[aw I.wk,aw rb] w fun e w'=>AnO w.heap.size r.to (i8 0 r) s.far w e w':=by
 have c6:w.cell? ⟨I.wk,6,none⟩=some (.int .i64 s.far.1):=by simp[World.cell?,h.blk]
 have c7:w.cell? ⟨I.wk,7,none⟩=some (.int .u64 (s.far.2:Int)):=by simp[World.cell?,h.blk]
 have GO:=av c6
 have US:s.far.2<18446744073709551616:=by have:=h.far2;omega
 have h0l:(0:Nat)<w.heap.size:=av (hT 0 (by decide))
 obtain⟨wa,mI⟩:∃wa,wa=w.alloc (.cells #[.bool false,.int .i64 0,.slice none 0 0,.int .i64 0,.slice none 0 0] 31):=⟨_,rfl⟩
 have oE:aa (fun _=>False) w wa:=by rw[mI];exact(aa.refl _ w).alloc _
 have gu:wa.heap[w.heap.size]?=some (.cells #[.bool false,.int .i64 0,.slice none 0 0,.int .i64 0,.slice none 0 0] 31 (0,0)):=by rw[mI];exact heap_alloc_new _ _
 unfold aw
 go_enter Tryz.func74,Tryz.ntmps74
 go_wp2_with fail
 rw[<-mI]
 have V8:wa.cell? ⟨I.wk,6,none⟩=some (.int .i64 s.far.1):=(oE.cell (p:=⟨I.wk,6,none⟩) GO (fun x=>x)).trans c6
 have wm:∀W,aa (fun _=>False) wa W->Calls Tryz.prog 106 #[.pointer (some ⟨I.wk,6,none⟩)] W fun e w'=>NbX s.far.2 W e w':=fun W hW=>by
  refine(Bp I.wk s.far.2 W (hT.kept (oE.trans hW) (fun x=>x)) (((oE.trans hW).cell (p:=⟨I.wk,7,none⟩) GO (fun x=>x)).trans c7) US).mono ?_
  rintro e w2 ⟨⟨v2,rfl,mx⟩,dl⟩
  obtain⟨p2,n9,sW⟩:=an mx
  subst sW
  exact⟨⟨_,_,_,rfl,mx⟩,dl⟩
 have Nh:=wm wa.drew (aa.refl _ _).drew
 have XP:=wm (wa.alloc (.cells #[.bool false,.int .i64 0,.slice none 0 0,.int .i64 0,.slice none 0 0] 31)).drew ((aa.refl _ _).alloc _).drew
 have Oc:∀W,aa (fun _=>False) wa W->W.cell? ⟨I.wk,6,none⟩=some (.int .i64 s.far.1):=fun W hW=>(hW.cell (p:=⟨I.wk,6,none⟩) (av V8) (fun x=>x)).trans V8
 have A3:Hid (wa.heap.size=w.heap.size+1):=by unfold Hid;rw[mI];simp
 clear mI
 have hz:∀W,aa (fun _=>False) (wa.alloc (.cells #[.bool false,.int .i64 0,.slice none 0 0,.int .i64 0,.slice none 0 0] 31)).drew W->W.heap[wa.heap.size]?=some (.cells #[.bool false,.int .i64 0,.slice none 0 0,.int .i64 0,.slice none 0 0] 31 (0,0)):=fun W hW=>by
  rw[hW.block wa.heap.size (by show wa.heap.size<(wa.alloc _).heap.size;simp) (fun x=>x)]
  exact heap_alloc_new wa _
 have Xb:∀W:World,W.heap[wa.heap.size]?=some (.cells #[.bool false,.int .i64 0,.slice none 0 0,.int .i64 0,.slice none 0 0] 31 (0,0))->(W.cell? ⟨wa.heap.size,0,none⟩=some (.bool false)/\W.cell? ⟨wa.heap.size,1,none⟩=some (.int .i64 0)/\W.cell? ⟨wa.heap.size,2,none⟩=some (.slice none 0 0)/\W.cell? ⟨wa.heap.size,3,none⟩=some (.int .i64 0)/\W.cell? ⟨wa.heap.size,4,none⟩=some (.slice none 0 0))/\(W.frozen? ⟨wa.heap.size,0,none⟩=false/\W.frozen? ⟨wa.heap.size,1,none⟩=false/\W.frozen? ⟨wa.heap.size,2,none⟩=false/\W.frozen? ⟨wa.heap.size,3,none⟩=false/\W.frozen? ⟨wa.heap.size,4,none⟩=false):=fun W hW=>by
  refine⟨⟨?_,?_,?_,?_,?_⟩,?_,?_,?_,?_,?_⟩ <;> (first | simp[World.cell?,hW] | simp[World.frozen?,hW])
 have Tj:¬wa.heap.size=I.wk:=by have h5:I.wk<wa.heap.size:=av V8;omega
 have sV:Hid ((wa.alloc (.cells #[.bool false,.int .i64 0,.slice none 0 0,.int .i64 0,.slice none 0 0] 31)).drew.heap.size=wa.heap.size+1):=by show (wa.alloc _).heap.size=_;simp
 have QE:¬I.wk=wa.heap.size:=fun e=>Tj e.symm
 go_region_held3 (fun w'=>w'.cell? ⟨I.wk,6,none⟩=some (.int .i64 s.far.1)) (go_keep) ((go_at_call 106;first | (refine Nh.mono ?_;rintro e w2 ⟨⟨p2,n2,n9,rfl,mx⟩,dl⟩;have d6:=Oc w2 ((aa.refl _ _).drew.trans dl)) | (refine XP.mono ?_;rintro e w2 ⟨⟨p2,n2,n9,rfl,mx⟩,dl⟩;have d6:=Oc w2 (((aa.refl _ _).alloc _).drew.trans dl);have To:=hz w2 dl;obtain⟨⟨z0,z1,z2,z3,z4⟩,f0,f1,f2,f3,f4⟩:=Xb w2 To)))
 ·obtain⟨w3,gT⟩:∃w3,w3=w2.alloc (.cells #[.bool false,.int .i64 0,.slice none 0 0,.int .i64 s.far.1,.slice p2 n2 n9] 31):=⟨_,rfl⟩
  rw[<-gT]
  obtain⟨ab,rh⟩:∃ab,ab=w2.heap.size:=⟨_,rfl⟩
  rw[<-rh]
  have K3:aa (fun _=>False) wa w3:=by rw[gT];exact((aa.refl _ wa).drew.trans dl).alloc _
  have dY:w3.heap[ab]?=some (.cells #[.bool false,.int .i64 0,.slice none 0 0,.int .i64 s.far.1,.slice p2 n2 n9] 31 (0,0)):=by rw[gT,rh];exact heap_alloc_new _ _
  have kL:wa.heap.size<=ab:=by rw[rh];exact dl.size
  have N5:w3.ownsRow wa.heap.size 3 1 (.slice p2 n2 n9) (vw s.far.2).length ((vw s.far.2).map wA):=by rw[gT];exact mx.alloc _
  have Od:(Value.slice p2 n2 n9).ownBlock≠some ab:=fun e=>by have:=(mx.lt ab e).2;omega
  clear gT rh dl mx d6
  have NC:aa (fun _=>False) w w3:=oE.trans K3
  have KO:fw w3 mv.ownBlock rb r:=hr.fr (b0:=I.b0) (Fr.new NC)
  obtain⟨_,_,r2,_⟩:=KO.cells
  have b0:w3.cell? ⟨ab,0,none⟩=some (.bool false):=by simp[World.cell?,dY]
  have b1:w3.cell? ⟨ab,1,none⟩=some (.int .i64 0):=by simp[World.cell?,dY]
  have b2:w3.cell? ⟨ab,2,none⟩=some (.slice none 0 0):=by simp[World.cell?,dY]
  have b3:w3.cell? ⟨ab,3,none⟩=some (.int .i64 s.far.1):=by simp[World.cell?,dY]
  have b4:w3.cell? ⟨ab,4,none⟩=some (.slice p2 n2 n9):=by simp[World.cell?,dY]
  have g0:w3.frozen? ⟨ab,0,none⟩=false:=by simp[World.frozen?,dY]
  have g1:w3.frozen? ⟨ab,1,none⟩=false:=by simp[World.frozen?,dY]
  have g2:w3.frozen? ⟨ab,2,none⟩=false:=by simp[World.frozen?,dY]
  have iy:w3.heap[w.heap.size]?=some (.cells #[.bool false,.int .i64 0,.slice none 0 0,.int .i64 0,.slice none 0 0] 31 (0,0)):=by
   rw[K3.block w.heap.size (ag (show ai wa w.heap.size=_ from gu)) (fun x=>x)];exact gu
  have hq:ab≠w.heap.size:=by have:=A3.out;omega
  have yN:¬w.heap.size=ab:=fun e=>hq e.symm
  have fq:∀k,w3.frozen? ⟨w.heap.size,k,none⟩=false:=fun k=>by simp[World.frozen?,iy]
  have B8:=fq 0
  have B9:=fq 1
  have Ca:=fq 2
  have Cb:=fq 3
  have Gj:=fq 4
  have y0:w3.cell? ⟨w.heap.size,0,none⟩=some (.bool false):=by simp[World.cell?,iy]
  have y1:w3.cell? ⟨w.heap.size,1,none⟩=some (.int .i64 0):=by simp[World.cell?,iy]
  have y2:w3.cell? ⟨w.heap.size,2,none⟩=some (.slice none 0 0):=by simp[World.cell?,iy]
  have y3:w3.cell? ⟨w.heap.size,3,none⟩=some (.int .i64 0):=by simp[World.cell?,iy]
  have y4:w3.cell? ⟨w.heap.size,4,none⟩=some (.slice none 0 0):=by simp[World.cell?,iy]
  by_cases ht:r.to=-1
  ·rw[ht]at r2
   go_wp2
   obtain⟨w5,jX⟩:∃w5,w5=gp w3 w.heap.size (.bool false) (.int .i64 0) (.slice none 0 0) (.int .i64 s.far.1) (.slice p2 n2 n9):=⟨_,rfl⟩
   have Dr:=jX
   unfold gp at Dr
   rw[<-Dr]
   have h5:w5.heap[w.heap.size]?=some (.cells #[.bool false,.int .i64 0,.slice none 0 0,.int .i64 s.far.1,.slice p2 n2 n9] 31 (0,0)):=by rw[jX];exact fj iy _ _ _ _ _
   have K5:aa (fun k=>k=w.heap.size) w3 w5:=by rw[jX];exact dB _ _ _ _ _ _ _
   obtain⟨x0,x1,x2,x3,x4⟩:=bS h5
   clear jX Dr
   refine bodyPost_ret (v:=.agg #[.bool false,.int .i64 0,.slice none 0 0,.int .i64 s.far.1,.slice p2 n2 n9]) (by simp[results,Tryz.results74,go_sem,x0,x1,x2,x3,x4]) rfl ⟨⟨_,_,_,_,_,_,_,_,rfl,⟨by rw[ht];rfl,by rw[ht];rfl,?_,?_⟩⟩,?_⟩
   ·rw[ht];exact World.ownsRow_nil _ _ _ _
   ·exact aC (eY N5 oE.size) K5 (fun i hi e=>by
     have e':i=w.heap.size:=e
     have h6:=(N5.lt i hi).1
     have h7:=A3.out
     omega)
   ·exact NC.then K5 (fun i hi e=>by have e':i=w.heap.size:=e;omega)
  ·have Cn:(i8 0 r).length<=100000:=hn ht
   have vY:=qN mv.ownBlock (i8 0 r).length r rb 0 0 w.heap.size (.slice none 0 0) [] w3.drew (Nat.le_refl _) (KO.fr (b0:=I.b0) (Fr.new (aa.refl _ w3).drew)) (World.ownsRow_nil _ _ _ _) (by show w.heap.size<=w3.heap.size;have:=NC.size;omega) (by omega) (by omega)
   unfold aw at vY
   have wn:¬rb=ab:=fun e=>by
    cases KO with
    | mk blk _ _ _=>rw[e,dY]at blk;simp at blk
   have qbw:¬ab=rb:=fun e=>wn e.symm
   have eW:¬r.to=-1:=ht
   have lc:∀w4,aa (fun k=>(Value.slice none 0 0).ownBlock=some k) w3.drew w4->aa (fun _=>False) w3 w4:=fun w4 hk=>(aa.refl (fun _=>False) w3).drew.trans (hk.mono (fun k _ e=>by cases e))
   have Si:∀w4,aa (fun _=>False) w3 w4->w4.heap[ab]?=some (.cells #[.bool false,.int .i64 0,.slice none 0 0,.int .i64 s.far.1,.slice p2 n2 n9] 31 (0,0)):=fun w4 hk=>(hk.block ab (ag (show ai w3 ab=_ from dY)) (fun x=>x)).trans dY
   have Ss:∀w4:World,w4.heap[ab]?=some (.cells #[.bool false,.int .i64 0,.slice none 0 0,.int .i64 s.far.1,.slice p2 n2 n9] 31 (0,0))->w4.frozen? ⟨ab,0,none⟩=false/\w4.frozen? ⟨ab,1,none⟩=false/\w4.frozen? ⟨ab,2,none⟩=false:=fun w4 h4=>⟨by simp[World.frozen?,h4],by simp[World.frozen?,h4],by simp[World.frozen?,h4]⟩
   have S0:∀w4,aa (fun _=>False) w3 w4->w4.cell? ⟨rb,2,none⟩=some (.int .i64 r.to):=fun w4 hk=>(hk.cell (p:=⟨rb,2,none⟩) KO.lt (fun x=>x)).trans r2
   clear b0 b1 b2 b3 b4 g0 g1 g2 fq B8 B9 Ca Cb Gj y0 y1 y2 y3 y4 Nh XP wm Oc Xb hz KO h hn c6 c7 GO Tj QE V8 hT hr h0l hI sV K3 US Cn
   have HQ:=ae hq
   have HT:=ae ht
   have Z3:=ae kL
   clear hq yN ht kL
   go_wp2_with fail
   go_region_held3 (fun w'=>w'.cell? ⟨rb,2,none⟩=some (.int .i64 r.to)) (go_keep) ((go_at_call 107;refine vY.mono ?_;rintro e w4 ⟨⟨v4,rfl,Gp,-⟩,eK⟩;obtain⟨p4,B7,Yj⟩:=an Gp;subst Yj;have K4:=lc w4 eK;have C5:=Si w4 K4;obtain⟨j0,j1,j2,j3,j4⟩:=bS C5;obtain⟨l0,l1,l2⟩:=Ss w4 C5;have k2:=S0 w4 K4))
   obtain⟨w5,jX⟩:∃w5,w5=((w4.setCell ⟨ab,0,none⟩ (.bool true)).setCell ⟨ab,1,none⟩ (.int .i64 r.to)).setCell ⟨ab,2,none⟩ (.slice p4 (i8 0 r).length B7):=⟨_,rfl⟩
   rw[<-jX]
   have me:aa (fun k=>k=ab) w4 w5:=by
    rw[jX]
    exact(((aa.refl (fun k=>k=ab) w4).setCell (p:=⟨ab,0,none⟩) (fun _=>rfl) _).setCell (p:=⟨ab,1,none⟩) (fun _=>rfl) _).setCell (p:=⟨ab,2,none⟩) (fun _=>rfl) _
   have EN:w5.heap[ab]?=some (.cells #[.bool true,.int .i64 r.to,.slice p4 (i8 0 r).length B7,.int .i64 s.far.1,.slice p2 n2 n9] 31 (0,0)):=by
    rw[jX]
    have e1:=aj C5 0 (.bool true)
    have e2:=aj e1 1 (.int .i64 r.to)
    have e3:=aj e2 2 (.slice p4 (i8 0 r).length B7)
    simpa using e3
   have so:w5.heap[w.heap.size]?=some (.cells #[.bool false,.int .i64 0,.slice none 0 0,.int .i64 0,.slice none 0 0] 31 (0,0)):=by
    have Oq:=ag (show ai w3 w.heap.size=_ from iy)
    rw[me.block w.heap.size (Nat.lt_of_lt_of_le Oq K4.size) (fun e=>HQ.out e.symm),K4.block w.heap.size Oq (fun x=>x)]
    exact iy
   obtain⟨m0,m1,m2,m3,m4⟩:=bS EN
   have fq:∀k,w5.frozen? ⟨w.heap.size,k,none⟩=false:=fun k=>by simp[World.frozen?,so]
   have B8:=fq 0
   have B9:=fq 1
   have Ca:=fq 2
   have Cb:=fq 3
   have Gj:=fq 4
   obtain⟨y0,y1,y2,y3,y4⟩:=bS so
   have hq:=HQ.out
   have yN:¬w.heap.size=ab:=fun e=>hq e.symm
   clear jX j0 j1 j2 j3 j4 l0 l1 l2 k2
   go_wp2
   obtain⟨w6,lZ⟩:∃w6,w6=gp w5 w.heap.size (.bool true) (.int .i64 r.to) (.slice p4 (i8 0 r).length B7) (.int .i64 s.far.1) (.slice p2 n2 n9):=⟨_,rfl⟩
   have jv:=lZ
   unfold gp at jv
   rw[<-jv]
   have h6:w6.heap[w.heap.size]?=some (.cells #[.bool true,.int .i64 r.to,.slice p4 (i8 0 r).length B7,.int .i64 s.far.1,.slice p2 n2 n9] 31 (0,0)):=by rw[lZ];exact fj so _ _ _ _ _
   have K6:aa (fun k=>k=w.heap.size) w5 w6:=by rw[lZ];exact dB _ _ _ _ _ _ _
   obtain⟨x0,x1,x2,x3,x4⟩:=bS h6
   have Ru:aa (fun k=>k=ab\/k=w.heap.size) w4 w6:=(me.mono (fun _ _ e=>Or.inl e)).trans (K6.mono (fun _ _ e=>Or.inr e))
   have ht:=HT.out
   clear lZ jv
   refine bodyPost_ret (v:=.agg #[.bool true,.int .i64 r.to,.slice p4 (i8 0 r).length B7,.int .i64 s.far.1,.slice p2 n2 n9]) (by simp[results,Tryz.results74,go_sem,x0,x1,x2,x3,x4]) rfl ⟨⟨_,_,_,_,_,_,_,_,rfl,⟨by simp[ht],by rw[if_neg ht],?_,?_⟩⟩,?_⟩
   ·rw[if_neg ht]
    have JW:w4.ownsRow w.heap.size 61 4 (.slice p4 (i8 0 r).length B7) (i8 0 r).length ((i8 0 r).flatMap ig):=by simpa using Gp
    exact aC JW Ru (fun i hi e=>by
     obtain⟨c,hc⟩:=ak JW hi
     have gB:w4.heap[i]?=_:=hc
     rcases e with e | e
     ·rw[e,C5]at gB;simp at gB
     ·have Oq:=ag (show ai w3 w.heap.size=_ from iy)
      rw[e,K4.block w.heap.size Oq (fun x=>x),iy]at gB;simp at gB)
   ·exact aC (aC (eY N5 oE.size) K4 (fun _ _ x=>x)) Ru (fun i hi e=>by
     rcases e with e | e
     ·exact Od (by rw[hi];exact congrArg some e)
     ·have h6:=(N5.lt i hi).1
      have h7:=A3.out
      omega)
   ·exact(NC.trans K4).then Ru (fun i hi e=>by
     rcases e with e | e
     ·have hx:ab<w.heap.size:=by rw[<-e];exact hi
      have:=Z3.out
      have h7:=A3.out
      omega
     ·omega)
 ·obtain⟨w3,gT⟩:∃w3,w3=((((w2.setCell ⟨wa.heap.size,0,none⟩ (.bool false)).setCell ⟨wa.heap.size,1,none⟩ (.int .i64 0)).setCell ⟨wa.heap.size,2,none⟩ (.slice none 0 0)).setCell ⟨wa.heap.size,3,none⟩ (.int .i64 s.far.1)).setCell ⟨wa.heap.size,4,none⟩ (.slice p2 n2 n9):=⟨_,rfl⟩
  rw[<-gT]
  obtain⟨ab,rh⟩:∃ab,ab=wa.heap.size:=⟨_,rfl⟩
  rw[<-rh]
  have zP:aa (fun k=>k=wa.heap.size) w2 w3:=by
   rw[gT]
   exact((((((aa.refl (fun k=>k=wa.heap.size) w2).setCell (p:=⟨wa.heap.size,0,none⟩) (fun _=>rfl) _).setCell (p:=⟨wa.heap.size,1,none⟩) (fun _=>rfl) _).setCell (p:=⟨wa.heap.size,2,none⟩) (fun _=>rfl) _).setCell (p:=⟨wa.heap.size,3,none⟩) (fun _=>rfl) _).setCell (p:=⟨wa.heap.size,4,none⟩) (fun _=>rfl) _)
  have K3:aa (fun _=>False) wa w3:=(((aa.refl (fun _=>False) wa).alloc _).drew.trans dl).then zP (fun i hi e=>by have e':i=wa.heap.size:=e;omega)
  have dY:w3.heap[ab]?=some (.cells #[.bool false,.int .i64 0,.slice none 0 0,.int .i64 s.far.1,.slice p2 n2 n9] 31 (0,0)):=by
   rw[gT,rh]
   have e1:=aj To 0 (.bool false)
   have e2:=aj e1 1 (.int .i64 0)
   have e3:=aj e2 2 (.slice none 0 0)
   have e4:=aj e3 3 (.int .i64 s.far.1)
   have e5:=aj e4 4 (.slice p2 n2 n9)
   simpa using e5
  have kL:wa.heap.size<=ab:=by rw[rh];exact Nat.le_refl _
  have Ki:(Value.slice p2 n2 n9).ownBlock≠some wa.heap.size:=fun e=>by
   have h5:=(mx.lt _ e).1
   have h6:=sV.out
   omega
  have N5:w3.ownsRow wa.heap.size 3 1 (.slice p2 n2 n9) (vw s.far.2).length ((vw s.far.2).map wA):=eY (aC mx zP (fun i hi e=>Ki (by rw[hi];exact congrArg some e))) (by have h6:=sV.out;omega)
  have Od:(Value.slice p2 n2 n9).ownBlock≠some ab:=by rw[rh];exact Ki
  clear gT rh dl mx d6 z0 z1 z2 z3 z4 f0 f1 f2 f3 f4 To zP Ki
  have NC:aa (fun _=>False) w w3:=oE.trans K3
  have KO:fw w3 mv.ownBlock rb r:=hr.fr (b0:=I.b0) (Fr.new NC)
  obtain⟨_,_,r2,_⟩:=KO.cells
  have b0:w3.cell? ⟨ab,0,none⟩=some (.bool false):=by simp[World.cell?,dY]
  have b1:w3.cell? ⟨ab,1,none⟩=some (.int .i64 0):=by simp[World.cell?,dY]
  have b2:w3.cell? ⟨ab,2,none⟩=some (.slice none 0 0):=by simp[World.cell?,dY]
  have b3:w3.cell? ⟨ab,3,none⟩=some (.int .i64 s.far.1):=by simp[World.cell?,dY]
  have b4:w3.cell? ⟨ab,4,none⟩=some (.slice p2 n2 n9):=by simp[World.cell?,dY]
  have g0:w3.frozen? ⟨ab,0,none⟩=false:=by simp[World.frozen?,dY]
  have g1:w3.frozen? ⟨ab,1,none⟩=false:=by simp[World.frozen?,dY]
  have g2:w3.frozen? ⟨ab,2,none⟩=false:=by simp[World.frozen?,dY]
  have iy:w3.heap[w.heap.size]?=some (.cells #[.bool false,.int .i64 0,.slice none 0 0,.int .i64 0,.slice none 0 0] 31 (0,0)):=by
   rw[K3.block w.heap.size (ag (show ai wa w.heap.size=_ from gu)) (fun x=>x)];exact gu
  have hq:ab≠w.heap.size:=by have:=A3.out;omega
  have yN:¬w.heap.size=ab:=fun e=>hq e.symm
  have fq:∀k,w3.frozen? ⟨w.heap.size,k,none⟩=false:=fun k=>by simp[World.frozen?,iy]
  have B8:=fq 0
  have B9:=fq 1
  have Ca:=fq 2
  have Cb:=fq 3
  have Gj:=fq 4
  have y0:w3.cell? ⟨w.heap.size,0,none⟩=some (.bool false):=by simp[World.cell?,iy]
  have y1:w3.cell? ⟨w.heap.size,1,none⟩=some (.int .i64 0):=by simp[World.cell?,iy]
  have y2:w3.cell? ⟨w.heap.size,2,none⟩=some (.slice none 0 0):=by simp[World.cell?,iy]
  have y3:w3.cell? ⟨w.heap.size,3,none⟩=some (.int .i64 0):=by simp[World.cell?,iy]
  have y4:w3.cell? ⟨w.heap.size,4,none⟩=some (.slice none 0 0):=by simp[World.cell?,iy]
  by_cases ht:r.to=-1
  ·rw[ht]at r2
   go_wp2
   obtain⟨w5,jX⟩:∃w5,w5=gp w3 w.heap.size (.bool false) (.int .i64 0) (.slice none 0 0) (.int .i64 s.far.1) (.slice p2 n2 n9):=⟨_,rfl⟩
   have Dr:=jX
   unfold gp at Dr
   rw[<-Dr]
   have h5:w5.heap[w.heap.size]?=some (.cells #[.bool false,.int .i64 0,.slice none 0 0,.int .i64 s.far.1,.slice p2 n2 n9] 31 (0,0)):=by rw[jX];exact fj iy _ _ _ _ _
   have K5:aa (fun k=>k=w.heap.size) w3 w5:=by rw[jX];exact dB _ _ _ _ _ _ _
   obtain⟨x0,x1,x2,x3,x4⟩:=bS h5
   clear jX Dr
   refine bodyPost_ret (v:=.agg #[.bool false,.int .i64 0,.slice none 0 0,.int .i64 s.far.1,.slice p2 n2 n9]) (by simp[results,Tryz.results74,go_sem,x0,x1,x2,x3,x4]) rfl ⟨⟨_,_,_,_,_,_,_,_,rfl,⟨by rw[ht];rfl,by rw[ht];rfl,?_,?_⟩⟩,?_⟩
   ·rw[ht];exact World.ownsRow_nil _ _ _ _
   ·exact aC (eY N5 oE.size) K5 (fun i hi e=>by
     have e':i=w.heap.size:=e
     have h6:=(N5.lt i hi).1
     have h7:=A3.out
     omega)
   ·exact NC.then K5 (fun i hi e=>by have e':i=w.heap.size:=e;omega)
  ·have Cn:(i8 0 r).length<=100000:=hn ht
   have vY:=qN mv.ownBlock (i8 0 r).length r rb 0 0 w.heap.size (.slice none 0 0) [] w3.drew (Nat.le_refl _) (KO.fr (b0:=I.b0) (Fr.new (aa.refl _ w3).drew)) (World.ownsRow_nil _ _ _ _) (by show w.heap.size<=w3.heap.size;have:=NC.size;omega) (by omega) (by omega)
   unfold aw at vY
   have wn:¬rb=ab:=fun e=>by
    cases KO with
    | mk blk _ _ _=>rw[e,dY]at blk;simp at blk
   have qbw:¬ab=rb:=fun e=>wn e.symm
   have eW:¬r.to=-1:=ht
   have lc:∀w4,aa (fun k=>(Value.slice none 0 0).ownBlock=some k) w3.drew w4->aa (fun _=>False) w3 w4:=fun w4 hk=>(aa.refl (fun _=>False) w3).drew.trans (hk.mono (fun k _ e=>by cases e))
   have Si:∀w4,aa (fun _=>False) w3 w4->w4.heap[ab]?=some (.cells #[.bool false,.int .i64 0,.slice none 0 0,.int .i64 s.far.1,.slice p2 n2 n9] 31 (0,0)):=fun w4 hk=>(hk.block ab (ag (show ai w3 ab=_ from dY)) (fun x=>x)).trans dY
   have Ss:∀w4:World,w4.heap[ab]?=some (.cells #[.bool false,.int .i64 0,.slice none 0 0,.int .i64 s.far.1,.slice p2 n2 n9] 31 (0,0))->w4.frozen? ⟨ab,0,none⟩=false/\w4.frozen? ⟨ab,1,none⟩=false/\w4.frozen? ⟨ab,2,none⟩=false:=fun w4 h4=>⟨by simp[World.frozen?,h4],by simp[World.frozen?,h4],by simp[World.frozen?,h4]⟩
   have S0:∀w4,aa (fun _=>False) w3 w4->w4.cell? ⟨rb,2,none⟩=some (.int .i64 r.to):=fun w4 hk=>(hk.cell (p:=⟨rb,2,none⟩) KO.lt (fun x=>x)).trans r2
   clear b0 b1 b2 b3 b4 g0 g1 g2 fq B8 B9 Ca Cb Gj y0 y1 y2 y3 y4 Nh XP wm Oc Xb hz KO h hn c6 c7 GO Tj QE V8 hT hr h0l hI sV K3 US Cn
   have HQ:=ae hq
   have HT:=ae ht
   have Z3:=ae kL
   clear hq yN ht kL
   go_wp2_with fail
   go_region_held3 (fun w'=>w'.cell? ⟨rb,2,none⟩=some (.int .i64 r.to)) (go_keep) ((go_at_call 107;refine vY.mono ?_;rintro e w4 ⟨⟨v4,rfl,Gp,-⟩,eK⟩;obtain⟨p4,B7,Yj⟩:=an Gp;subst Yj;have K4:=lc w4 eK;have C5:=Si w4 K4;obtain⟨j0,j1,j2,j3,j4⟩:=bS C5;obtain⟨l0,l1,l2⟩:=Ss w4 C5;have k2:=S0 w4 K4))
   obtain⟨w5,jX⟩:∃w5,w5=((w4.setCell ⟨ab,0,none⟩ (.bool true)).setCell ⟨ab,1,none⟩ (.int .i64 r.to)).setCell ⟨ab,2,none⟩ (.slice p4 (i8 0 r).length B7):=⟨_,rfl⟩
   rw[<-jX]
   have me:aa (fun k=>k=ab) w4 w5:=by
    rw[jX]
    exact(((aa.refl (fun k=>k=ab) w4).setCell (p:=⟨ab,0,none⟩) (fun _=>rfl) _).setCell (p:=⟨ab,1,none⟩) (fun _=>rfl) _).setCell (p:=⟨ab,2,none⟩) (fun _=>rfl) _
   have EN:w5.heap[ab]?=some (.cells #[.bool true,.int .i64 r.to,.slice p4 (i8 0 r).length B7,.int .i64 s.far.1,.slice p2 n2 n9] 31 (0,0)):=by
    rw[jX]
    have e1:=aj C5 0 (.bool true)
    have e2:=aj e1 1 (.int .i64 r.to)
    have e3:=aj e2 2 (.slice p4 (i8 0 r).length B7)
    simpa using e3
   have so:w5.heap[w.heap.size]?=some (.cells #[.bool false,.int .i64 0,.slice none 0 0,.int .i64 0,.slice none 0 0] 31 (0,0)):=by
    have Oq:=ag (show ai w3 w.heap.size=_ from iy)
    rw[me.block w.heap.size (Nat.lt_of_lt_of_le Oq K4.size) (fun e=>HQ.out e.symm),K4.block w.heap.size Oq (fun x=>x)]
    exact iy
   obtain⟨m0,m1,m2,m3,m4⟩:=bS EN
   have fq:∀k,w5.frozen? ⟨w.heap.size,k,none⟩=false:=fun k=>by simp[World.frozen?,so]
   have B8:=fq 0
   have B9:=fq 1
   have Ca:=fq 2
   have Cb:=fq 3
   have Gj:=fq 4
   obtain⟨y0,y1,y2,y3,y4⟩:=bS so
   have hq:=HQ.out
   have yN:¬w.heap.size=ab:=fun e=>hq e.symm
   clear jX j0 j1 j2 j3 j4 l0 l1 l2 k2
   go_wp2
   obtain⟨w6,lZ⟩:∃w6,w6=gp w5 w.heap.size (.bool true) (.int .i64 r.to) (.slice p4 (i8 0 r).length B7) (.int .i64 s.far.1) (.slice p2 n2 n9):=⟨_,rfl⟩
   have jv:=lZ
   unfold gp at jv
   rw[<-jv]
   have h6:w6.heap[w.heap.size]?=some (.cells #[.bool true,.int .i64 r.to,.slice p4 (i8 0 r).length B7,.int .i64 s.far.1,.slice p2 n2 n9] 31 (0,0)):=by rw[lZ];exact fj so _ _ _ _ _
   have K6:aa (fun k=>k=w.heap.size) w5 w6:=by rw[lZ];exact dB _ _ _ _ _ _ _
   obtain⟨x0,x1,x2,x3,x4⟩:=bS h6
   have Ru:aa (fun k=>k=ab\/k=w.heap.size) w4 w6:=(me.mono (fun _ _ e=>Or.inl e)).trans (K6.mono (fun _ _ e=>Or.inr e))
   have ht:=HT.out
   clear lZ jv
   refine bodyPost_ret (v:=.agg #[.bool true,.int .i64 r.to,.slice p4 (i8 0 r).length B7,.int .i64 s.far.1,.slice p2 n2 n9]) (by simp[results,Tryz.results74,go_sem,x0,x1,x2,x3,x4]) rfl ⟨⟨_,_,_,_,_,_,_,_,rfl,⟨by simp[ht],by rw[if_neg ht],?_,?_⟩⟩,?_⟩
   ·rw[if_neg ht]
    have JW:w4.ownsRow w.heap.size 61 4 (.slice p4 (i8 0 r).length B7) (i8 0 r).length ((i8 0 r).flatMap ig):=by simpa using Gp
    exact aC JW Ru (fun i hi e=>by
     obtain⟨c,hc⟩:=ak JW hi
     have gB:w4.heap[i]?=_:=hc
     rcases e with e | e
     ·rw[e,C5]at gB;simp at gB
     ·have Oq:=ag (show ai w3 w.heap.size=_ from iy)
      rw[e,K4.block w.heap.size Oq (fun x=>x),iy]at gB;simp at gB)
   ·exact aC (aC (eY N5 oE.size) K4 (fun _ _ x=>x)) Ru (fun i hi e=>by
     rcases e with e | e
     ·exact Od (by rw[hi];exact congrArg some e)
     ·have h6:=(N5.lt i hi).1
      have h7:=A3.out
      omega)
   ·exact(NC.trans K4).then Ru (fun i hi e=>by
     rcases e with e | e
     ·have hx:ab<w.heap.size:=by rw[<-e];exact hi
      have:=Z3.out
      have h7:=A3.out
      omega
     ·omega)
structure F1 (s:ByteArray)(N:Nd):Prop where
 term:N.term<40
 tx:N.text.length<=s.size+2
 rl:N.rng.length<=s.size+2
structure Tq (s:ByteArray)(A B:St):Prop where
 t:A.sc.t<=40->B.sc.t<=40
 ns:∃l,B.ns=A.ns++l/\(A.sc.t<=40->∀N∈l,F1 s N)
theorem Tq.refl (s:ByteArray)(A:St):Tq s A A:=⟨id,[],by simp,by simp⟩
theorem Tq.trans {s:ByteArray}{A B C:St}(h:Tq s A B)(k:Tq s B C):Tq s A C:=by
 obtain⟨l,h1,h2⟩:=h.ns
 obtain⟨m,k1,k2⟩:=k.ns
 refine⟨fun x=>k.t (h.t x),l++m,by rw[k1,h1,List.append_assoc],fun x N hN=>?_⟩
 rcases List.mem_append.1 hN with h3 | h3
 ·exact h2 x N h3
 ·exact k2 (h.t x) N h3
theorem Tq.sc {s:ByteArray}{A B:St}(h:Tq s A B){g:Sc}(hg:g.t=B.sc.t):Tq s A { B with sc:=g }:=by
 obtain⟨l,h1,h2⟩:=h.ns
 exact⟨fun x=>by show g.t<=40;rw[hg];exact h.t x,l,h1,h2⟩
theorem Tq.pre {s:ByteArray}{A B:St}{g:Sc}(hg:g.t=A.sc.t)(h:Tq s { A with sc:=g } B):Tq s A B:=by
 obtain⟨l,h1,h2⟩:=h.ns
 exact⟨fun x=>h.t (by show g.t<=40;rw[hg];exact x),l,h1,fun x=>h2 (by show g.t<=40;rw[hg];exact x)⟩
theorem F1.of {s:ByteArray}{N:Nd}(h1:N.term=0)(h2:N.text=[])(h3:N.rng=[]):F1 s N:=⟨by omega,by rw[h2];simp,by rw[h3];simp⟩
theorem Tq.add {s:ByteArray}{A B:St}(h:Tq s A B){N:Nd}(hN:F1 s N):Tq s A (aP B N).1:=by
 obtain⟨l,h1,h2⟩:=h.ns
 refine⟨h.t,l++[N],by show B.ns++[N]=_;rw[h1,List.append_assoc],fun x M hM=>?_⟩
 rcases List.mem_append.1 hM with h3 | h3
 ·exact h2 x M h3
 ·simp at h3;rw[h3];exact hN
def mh (s:ByteArray)(ch:St->St × Nat)(d:Nat):Prop:=∀A,Iv s A.sc->5<=A.sc.op+d->(ch A).1.sc.bad<0->Tq s A (ch A).1
theorem QW {g:Sc}(h:(tm g).bad<0)(ht:g.t<=40):g.t<40:=by
 rcases Nat.lt_or_ge g.t 40 with h1 | h1
 ·exact h1
 ·have h2:g.t=40:=by omega
  unfold tm bM at h
  rw[if_pos h2]at h
  have:=ii g
  dsimp only at h
  omega
theorem Bc {s:ByteArray}:∀f acc g,(fP s f acc g).1.length<=acc.length+f
 | 0,acc,g=>by simp[fP]
 | f+1,acc,g=>by
  rw[fP]
  split
  ·have:=Bc (s:=s) f (acc++[(ay s g km 0).1.toUInt8]) (ay s g km 0).2
   rw[List.length_append]at this
   simp only[List.length_cons,List.length_nil]at this
   omega
  ·simp
theorem BG {s:ByteArray}:∀f sd g,(ef s f sd g).1.length<=f
 | 0,sd,g=>by simp[ef]
 | f+1,sd,g=>by
  rw[ef]
  split
  ·have:=BG (s:=s) f false (fE s g).2
   simp;omega
  ·simp
theorem Tq.term {s:ByteArray}{A:St}{g:Sc}{N:Nd}(hb:(tm (bl s A.sc)).bad<0)(hg:g.t=A.sc.t+1)(hN:N.term=(bl s A.sc).t)(h1:N.text.length<=s.size+2)(h2:N.rng.length<=s.size+2):Tq s A (aP { A with sc:=g } N).1:=by
 have ni:=jR s A.sc
 refine⟨fun x=>?_,[N],rfl,fun x M hM=>?_⟩
 ·have:=QW hb (by rw[ni];exact x)
  show g.t<=40
  omega
 ·simp at hM
  rw[hM]
  have:=QW hb (by rw[ni];exact x)
  exact⟨by rw[hN];exact this,h1,h2⟩
theorem Pe {s:ByteArray}{ch:St->St × Nat}{d:Nat}(hg:d=0\/eN s ch (d-1))(ho:d=0\/mh s ch (d-1)):mh s (aR s ch) d:=by
 intro A hi hd hb
 have ni:=jR s A.sc
 revert hb
 unfold aR
 split
 ·intro hb
  have hw:=(gN (s:=s) (g:=bl s A.sc) hi.bl).2.1
  exact((Tq.refl s A).sc (g:=(bz s (bl s A.sc)).2) (hw.trans ni)).add (F1.of rfl rfl rfl)
 ·split
  ·intro hb
   exact Tq.term hb (by rw[zt,ni]) rfl (by simp[cj]) (by simp[cj])
  ·split
   ·next h39=>
    intro hb
    obtain⟨p1,p2,p3⟩:=cT (s:=s) (g:=bl s A.sc) (by omega)
    obtain⟨l1,l2,l3,l4,l5⟩:=rC (qj hi.bl p2) (by rw[jB];omega)
    exact Tq.term (l5 hb) (by rw[l4,zt,ni]) rfl (by
     have:=Bc (s:=s) (s.size+2) [] (tm (bl s A.sc))
     simpa [qB] using this) (by simp[cj])
   ·split
    ·next h91=>
     intro hb
     obtain⟨p1,p2,p3⟩:=cT (s:=s) (g:=bl s A.sc) (by omega)
     obtain⟨l1,l2,l3,l4,l5⟩:=rM (qj hi.bl p2) (by rw[jB];omega)
     exact Tq.term (l5 hb) (by rw[l4,zt,ni]) rfl (by simp[cj]) (by
      have:=BG (s:=s) (s.size+2) true (tm (bl s A.sc))
      simpa [set] using this)
    ·split
     ·next hc=>
      intro hb
      have rx:=ip s A.sc
      have Ke:d≠0:=by have:=hc.2;omega
      have hpp:=cT (s:=s) (g:=bl s A.sc) (by omega)
      have AD:Iv s (ez (bl s A.sc)):=⟨fun _=>by simp[ez];omega,by simp[ez];omega⟩
      have tf:5<=(ez (bl s A.sc)).op+(d-1):=by dsimp only[ez];omega
      have h1:=ho.resolve_left Ke { A with sc:=ez (bl s A.sc) } AD tf
      have h2:=hg.resolve_left Ke { A with sc:=ez (bl s A.sc) } AD tf
      generalize ch { A with sc:=ez (bl s A.sc) }=X at *
      have eL:(mu s X.1.sc 41).bad<0:=hb
      have dY:=(Fs.mu h2.iv 41).good eL
      have h3:=(h1 dY).sc (g:=oS (mu s X.1.sc 41)) (Hd s X.1.sc 41)
      exact Tq.pre (g:=ez (bl s A.sc)) ni h3
     ·intro hb
      exact((Tq.refl s A).sc (g:=wr (bl s A.sc)) ((rV _).trans ni)).add (F1.of rfl rfl rfl)
theorem OV {s:ByteArray}{ch:St->St × Nat}{d:Nat}(hg:d=0\/eN s ch (d-1))(ho:d=0\/mh s ch (d-1)):mh s (bP s ch) d:=by
 intro A hi hd hb
 obtain⟨f1,f2,f3⟩:=gX hi
 have hp:=Pe hg ho { A with sc:=bn s A.sc } f1.iv (by rw[show ({ A with sc:=bn s A.sc }:St).sc.op=A.sc.op from f1.op];exact hd)
 revert hb
 unfold bP
 generalize aR s ch { A with sc:=bn s A.sc }=X at *
 have hr:(cG s X).1.sc.bad<0->Tq s { A with sc:=bn s A.sc } (cG s X).1:=by
  unfold cG
  have kM:=ed s X.1.sc
  have qw:=jR s X.1.sc
  split
  ·next hk=>
   intro hb
   have jq:(bM (bl s X.1.sc)).bad<0:=hb
   have hX:=hp (by rw[<-kM];exact jq)
   exact(hX.sc (g:=bM (bl s X.1.sc)) qw).add (N:={ cj with kind:=bm (pk s (bl s X.1.sc)),subs:=[X.2] }) (F1.of rfl rfl rfl)
  ·intro hb
   have jq:(bl s X.1.sc).bad<0:=hb
   exact(hp (by rw[<-kM];exact jq)).sc qw
 generalize cG s X=R at *
 unfold eG
 split
 ·next hk=>
  intro hb
  exact Tq.pre f2 ((hr hb).add (N:={ cj with kind:=cY s A.sc,subs:=[R.2] }) (F1.of rfl rfl rfl))
 ·intro hb
  exact Tq.pre f2 (hr hb)
theorem FK {s:ByteArray}{ch:St->St × Nat}{d:Nat}(hg:d=0\/eN s ch (d-1))(ho:d=0\/mh s ch (d-1)):∀f acc A,Iv s A.sc->5<=A.sc.op+d->(dk s ch f acc A).1.sc.bad<0->Tq s A (dk s ch f acc A).1
 | 0,acc,A,_,_,_=>Tq.refl s A
 | f+1,acc,A,hi,hd,hb=>by
  have hp:=OV hg ho A hi hd
  have hf:=nk (s:=s) hg hi hd
  rw[dk]at hb ⊢
  generalize bP s ch A=X at *
  have kM:=ed s X.1.sc
  have qw:=jR s X.1.sc
  split
  ·next hc=>
   rw[if_pos hc]at hb
   have jq:(bl s X.1.sc).bad<0:=hb
   exact(hp (by rw[<-kM];exact jq)).sc qw
  ·next hc=>
   rw[if_neg hc]at hb
   have fK:(bl s X.1.sc).bad<0:=by
    have h1:du s (bl s X.1.sc)=false:=by simpa using hc
    unfold du at h1
    simp only[Bool.or_eq_false_iff,Bool.not_eq_false']at h1
    exact(cS.1 h1.1.1.1).1
   have h1:=(hp (by rw[<-kM];exact fK)).sc (g:=bl s X.1.sc) qw
   exact h1.trans (FK hg ho f _ _ hf.iv.bl (by rw[show ({ X.1 with sc:=bl s X.1.sc }:St).sc.op=X.1.sc.op from ip s X.1.sc,hf.op];exact hd) hb)
theorem Ud {s:ByteArray}{ch:St->St × Nat}{d:Nat}(hg:d=0\/eN s ch (d-1))(ho:d=0\/mh s ch (d-1)):mh s (eT s ch) d:=by
 intro A hi hd hb
 exact(FK hg ho (s.size+3) [] A hi hd hb).add (N:={ cj with kind:=5,subs:=(dk s ch (s.size+3) [] A).2 }) (F1.of rfl rfl rfl)
theorem En {s:ByteArray}{ch:St->St × Nat}{d:Nat}(hg:d=0\/eN s ch (d-1))(ho:d=0\/mh s ch (d-1)):∀f acc A,Iv s A.sc->5<=A.sc.op+d->(dD s ch f acc A).1.sc.bad<0->Tq s A (dD s ch f acc A).1
 | 0,acc,A,_,_,_=>Tq.refl s A
 | f+1,acc,A,hi,hd,hb=>by
  have hp:=Ud hg ho A hi hd
  have hf:=rJ (s:=s) hg hi hd
  rw[dD]at hb ⊢
  generalize eT s ch A=X at *
  have kM:=eJ s X.1.sc 47
  have qw:=nU s X.1.sc 47
  split
  ·next hc=>
   rw[if_pos hc]at hb
   have fK:X.1.sc.bad<0:=by
    rcases Int.lt_or_le X.1.sc.bad 0 with h | h
    ·exact h
    ·rw[nB 47 h]at hc;cases hc
   have h1:=(hp fK).sc (g:=sg s X.1.sc 47) qw
   exact h1.trans (En hg ho f _ _ (hf.iv.sg 47) (by rw[show ({ X.1 with sc:=sg s X.1.sc 47 }:St).sc.op=X.1.sc.op from qa s X.1.sc 47,hf.op];exact hd) hb)
  ·next hc=>
   rw[if_neg hc]at hb
   have jq:(sg s X.1.sc 47).bad<0:=hb
   exact(hp (by rw[<-kM];exact jq)).sc qw
theorem Jr {s:ByteArray}{ch:St->St × Nat}{d:Nat}(hg:d=0\/eN s ch (d-1))(ho:d=0\/mh s ch (d-1)):mh s (jU s ch) d:=by
 intro A hi hd hb
 exact(En hg ho (s.size+3) [] A hi hd hb).add (N:={ cj with kind:=4,subs:=(dD s ch (s.size+3) [] A).2 }) (F1.of rfl rfl rfl)
theorem El (s:ByteArray):∀d,mh s (dw s (d+1)) d
 | 0=>Jr (.inl rfl) (.inl rfl)
 | d+1=>Jr (d:=d+1) (.inr (eH s d)) (.inr (El s d))
theorem wU (s:ByteArray)(d:Nat)(A:St):(ap (dw s (d+1) A).1.ns (dw s (d+1) A).2).kind=4:=by
 show (ap (jU s (dw s d) A).1.ns (jU s (dw s d) A).2).kind=4
 unfold jU aP ap
 rw[List.getD_eq_getElem?_getD,List.getElem?_append_right (Nat.le_refl _)]
 simp
structure Uu (s:ByteArray)(X:St)(rs:List Rl):Prop where
 ok:Ok s X
 op:X.sc.op=0
 t:X.sc.t<=40
 nd:∀N∈X.ns,F1 s N
 ch:∀r∈rs,(ap X.ns r.is).kind=4/\r.is<X.ns.length
theorem LR {s:ByteArray}{X:St}{rs:List Rl}(h:Uu s X rs)(hb:X.sc.bad<0)(hg:(de s X).1.sc.bad<0):Uu s (de s X).1 (rs++[(de s X).2]):=by
 obtain⟨k1,k2,k3,k4,k5⟩:=jQ h.ok h.op hb
 obtain⟨w1,w2,w3⟩:=gN h.ok.iv
 have rx:5<=({ X with sc:=mu s (bz s X.sc).2 61 }:St).sc.op+5:=by omega
 have hc:=eH s 5 { X with sc:=mu s (bz s X.sc).2 61 } k1.iv rx
 have hT:=El s 5 { X with sc:=mu s (bz s X.sc).2 61 } k1.iv rx
 have hk:=wU s 5 { X with sc:=mu s (bz s X.sc).2 61 }
 have hw:=qV s 6 { X with sc:=mu s (bz s X.sc).2 61 }
 have ZM:({ X with sc:=mu s (bz s X.sc).2 61 }:St).sc.t<=40:=by show (mu s (bz s X.sc).2 61).t<=40;rw[Hd,w2];exact h.t
 refine⟨k3,k2,?_,?_,?_⟩
 all_goals
  revert hg
  unfold de
  generalize dw s 6 { X with sc:=mu s (bz s X.sc).2 61 }=Y at *
  intro hg
  have eL:(mu s Y.1.sc 10).bad<0:=hg
  have dY:=(Fs.mu hc.iv 10).good eL
  have hTq:=hT dY
  obtain⟨l,hl1,Ng⟩:=hTq.ns
  have XE:Y.1.ns=X.ns++l:=hl1
 ·show (mu s Y.1.sc 10).t<=40
  rw[Hd];exact hTq.t ZM
 ·intro N hN
  have Il:N∈Y.1.ns:=hN
  rw[XE]at Il
  rcases List.mem_append.1 Il with h1 | h1
  ·exact h.nd N h1
  ·exact Ng ZM N h1
 ·intro r hr
  rcases List.mem_append.1 hr with h1 | h1
  ·obtain⟨h2,h3⟩:=h.ch r h1
   show (ap Y.1.ns r.is).kind=4/\r.is<Y.1.ns.length
   rw[XE]
   refine⟨?_,by simp;omega⟩
   unfold ap at h2 ⊢
   rw[List.getD_eq_getElem?_getD,List.getElem?_append_left h3,<-List.getD_eq_getElem?_getD]
   exact h2
  ·simp at h1
   subst h1
   refine⟨hk,?_⟩
   rcases Nat.lt_or_ge Y.2 Y.1.ns.length with h4 | h4
   ·exact h4
   ·have h5:ap Y.1.ns Y.2=cj:=by unfold ap;rw[List.getD_eq_getElem?_getD,List.getElem?_eq_none h4];rfl
    rw[h5]at hk;cases hk
theorem xL {s:ByteArray}:∀f X rs,0<=X.sc.bad->(cX s f X rs).1.sc.bad=X.sc.bad
 | 0,X,rs,h=>rfl
 | f+1,X,rs,h=>by rw[cX,if_neg (by omega)]
theorem FD {s:ByteArray}:∀f X rs,Uu s X rs->(cX s f X rs).1.sc.bad<0->Uu s (cX s f X rs).1 (cX s f X rs).2
 | 0,X,rs,h,_=>h
 | f+1,X,rs,h,hb=>by
  rw[cX]at hb ⊢
  split
  ·next hc=>
   rw[if_pos hc]at hb
   split
   ·next h8=>
    rw[if_pos h8]at hb
    have jq:(wr X.sc).bad<0:=hb
    have:=ii X.sc
    omega
   ·next h8=>
    rw[if_neg h8]at hb
    refine FD f _ _ (LR h hc.1 ?_) hb
    rcases Int.lt_or_le (de s X).1.sc.bad 0 with h1 | h1
    ·exact h1
    ·rw[xL f _ _ h1]at hb;omega
  ·exact h
theorem uU {s:ByteArray}(hs:s.size<=400)(hb:(aq s).1.sc.bad<0):Uu s (aq s).1 (aq s).2:=by
 refine FD 10 _ _ ⟨⟨⟨fun _=>by simp,by simp⟩,by simp,?_,by simp,hs⟩,rfl,by simp,by simp,by simp⟩ hb
 simp[Pt,rest];omega
theorem Lj {rs:List Rl}{ns:List Nd}(hW:lK ns rs)(hN:∀N∈ns,N.kind=3->(dg rs N.name).isSome=true):∀n S,FX rs ns S->8-Ai S<=n->∃S',NE rs ns S'
 | n,S,h,hn=>by
  by_cases he:∀i,i<rs.length->Fm rs ns S i=S i
  ·exact⟨S,h.lst he⟩
  ·have hx:∃k,k<rs.length/\Fm rs ns S k≠S k:=by
    apply Classical.byContradiction
    intro hc
    exact he (fun i hi=>Classical.byContradiction fun h2=>hc ⟨i,hi,h2⟩)
   obtain⟨k,hk,eW⟩:=hx
   have h8:=hW.len
   have bj:=Ep h.up ⟨k,by omega,eW⟩
   have nj:=yn (Fm rs ns S)
   match n with
   | 0=>omega
   | n+1=>exact Lj hW hN n (Fm rs ns S) (h.next hW hN) (by omega)
theorem jl {s:ByteArray}(h:dj s=(0,0)):s.size<=400/\(aq s).1.sc.bad<0/\∃S,gD (aq s).2 (aq s).1.ns S:=by
 unfold dj at h
 split at h
 ·cases h
 split at h
 ·cases h
 split at h
 ·cases h
 split at h
 ·cases h
 next h1 h2 h3 h4=>
 have hW:=rH s
 have hN:=rF (rs:=(aq s).2) (ns:=(aq s).1.ns) (by omega)
 obtain⟨S,hS⟩:=Lj hW hN 8 (fun _=>false) (FX.none _ _) (by omega)
 refine⟨by omega,by omega,S,hW,hN,hS,?_⟩
 intro r
 induction r using Nat.strongRecOn with
 | _ r ih=>
  intro hr
  cases hc:ko (aq s).2 (aq s).1.ns S r with
  | false=>rfl
  | true=>
   have:=ue hW hN hS hr (fun u hu=>ih u hu (by omega)) hc
   omega
end Go.Proofs.YtagklnaaoclmhaaGreatDoor
