import Derived.Test.YtagklnaaoclmhaaGreatDoorMnAF
import Derived.Maps.OwnSet
set_option linter.unusedSimpArgs false
set_option linter.unusedVariables false
set_option maxRecDepth 100000
set_option maxHeartbeats 16000000
namespace Go.Proofs.YtagklnaaoclmhaaGreatDoor
open Go.RowKit Go.MuLone
def oz:List (Ky × Nat)->Ky->Option Nat
 | [],_=>none
 | e :: l,k=>if k=e.1 then some e.2 else oz l k
theorem o7:∀(EL:List (Ky × Nat)) (k:Ky) (i:Nat),(m9 EL k i).map (·.2)=oz EL k
 | [],_,_=>rfl
 | e :: l,k,i=>by
  rw[m9,oz]
  split
  ·rfl
  ·exact o7 l k (i+1)
theorem tS:∀(EL:List (Ky × Nat)) (g k:Ky),k≠g->oz (lU EL g) k=oz EL k
 | [],_,_,_=>rfl
 | e :: l,g,k,h=>by
  rw[lU]
  split
  ·next hg=>rw[oz,if_neg (by rw[<-hg];exact h)]
  ·rw[oz,oz,tS l g k h]
theorem yg:∀(EL:List (Ky × Nat)) (k k':Ky) (b:Nat),oz (EL++[(k,b)]) k'=(oz EL k').or (if k'=k then some b else none)
 | [],k,k',b=>by simp[oz]
 | e :: l,k,k',b=>by
  rw[List.cons_append,oz,oz,yg l k k' b]
  split <;> simp
theorem s9:∀(EL:List (Ky × Nat)) (k:Ky) (b:Nat),oz EL k=some b->(k,b)∈EL
 | [],_,_,h=>by cases h
 | e :: l,k,b,h=>by
  rw[oz]at h
  split at h
  ·next hk=>cases h;rw[hk];simp
  ·exact List.mem_cons_of_mem _ (s9 l k b h)
theorem tT:∀(EL:List (Ky × Nat)) (k:Ky) (b:Nat),(EL.map (·.1)).Nodup->(k,b)∈EL->oz EL k=some b
 | [],_,_,_,h=>by cases h
 | e :: l,k,b,hn,h=>by
  rw[oz]
  rcases List.mem_cons.1 h with e1 | e1
  ·rw[<-e1];simp
  ·rw[List.map_cons,List.nodup_cons]at hn
   rw[if_neg (fun he=>hn.1 (by rw[<-he];exact List.mem_map_of_mem e1))]
   exact tT l k b hn.2 e1
theorem td:∀(EL:List (Ky × Nat)) (g:Ky),∀x∈lU EL g,x∈EL
 | [],_,_,h=>h
 | e :: l,g,x,h=>by
  rw[lU]at h
  split at h
  ·exact List.mem_cons_of_mem _ h
  ·rcases List.mem_cons.1 h with e1 | e1
   ·rw[e1];simp
   ·exact List.mem_cons_of_mem _ (td l g x e1)
theorem pe:∀(EL:List (Ky × Nat)) (g:Ky),(EL.map (·.1)).Nodup->∀x∈lU EL g,x.1≠g
 | [],_,_,_,h=>by cases h
 | e :: l,g,hn,x,h=>by
  rw[List.map_cons,List.nodup_cons]at hn
  rw[lU]at h
  split at h
  ·next hg=>intro e1;exact hn.1 (by rw[<-hg,<-e1];exact List.mem_map_of_mem h)
  ·next hg=>
   rcases List.mem_cons.1 h with e1 | e1
   ·rw[e1];exact fun e2=>hg e2.symm
   ·exact pe l g hn.2 x e1
theorem Eu:∀(EL:List (Ky × Nat)) (g:Ky),∀x∈EL,x.1≠g->x∈lU EL g
 | [],_,_,h,_=>h
 | e :: l,g,x,h,eW=>by
  rw[lU]
  rcases List.mem_cons.1 h with e1 | e1
  ·rw[if_neg (fun e2=>eW (by rw[e1,e2])),e1];simp
  ·split
   ·exact e1
   ·exact List.mem_cons_of_mem _ (Eu l g x e1 eW)
theorem Jx:∀(EL:List (Ky × Nat)) (g:Ky),(EL.map (·.1)).Nodup->((lU EL g).map (·.1)).Nodup
 | [],_,h=>h
 | e :: l,g,hn=>by
  rw[List.map_cons,List.nodup_cons]at hn
  rw[lU]
  split
  ·exact hn.2
  ·rw[List.map_cons,List.nodup_cons]
   refine⟨fun hx=>hn.1 ?_,Jx l g hn.2⟩
   obtain⟨y,hy,e1⟩:=List.mem_map.1 hx
   rw[<-e1];exact List.mem_map_of_mem (td l g y hy)
theorem wW:∀(EL:List (Ky × Nat)) (g:Ky) (gb:Nat),(EL.map (·.1)).Nodup->(g,gb)∈EL->lU EL g=EL.erase (g,gb)
 | [],_,_,_,h=>by cases h
 | e :: l,g,gb,hn,h=>by
  rw[List.map_cons,List.nodup_cons]at hn
  rw[lU]
  rcases List.mem_cons.1 h with e1 | e1
  ·rw[<-e1];simp
  ·have eW:e≠(g,gb):=fun e2=>hn.1 (by rw[e2];exact List.mem_map_of_mem (f:=(·.1)) e1)
   have hg:¬g=e.1:=fun e2=>hn.1 (by rw[<-e2];exact List.mem_map_of_mem (f:=(·.1)) e1)
   rw[if_neg hg,List.erase_cons_tail (by simpa using eW),wW l g gb hn.2 e1]
def lL (EL:List (Ky × Nat)):Option Ky->List (Ky × Nat)
 | none=>EL
 | some g=>lU EL g
structure YZ (b0 ob eb:Nat)(C:Mc)(M:Ms)(EL:List (Ky × Nat))(k:Ky)(nb:Nat)(w:World)(e:Ending)(w':World):Prop where
 res:∃g:Option Nat,e=.returned (mS g)/\(g=none/\(cF C M k).1=none\/∃gk gb,g=some gb/\(cF C M k).1=some gk/\(gk,gb)∈EL)
 en:∀b k rb,d8 w b k rb->d8 w' b k rb
 dir:C.pol=1->tG w' b0 ob C.bud C.nr (lL EL (cF C M k).1++[(k,nb)]) (cF C M k).2.plc
 old:C.pol=2->im w' b0 ob C.bud (lL EL (cF C M k).1++[(k,nb)]) (cF C M k).2.ord
 kept:aa (fun j=>j=ob/\C.pol≠0\/j=nb\/(∃x∈EL,x.2=j)\/b0<=j/\∃c,w.heap[j]?=some (.cells c 271 (0,0))) w w'
theorem Rz {b0 ob eb:Nat}{C:Mc}{M:Ms}{EL:List (Ky × Nat)}{k:Ky}{nb rb:Nat}{w:World}(hp:C.pol=2)(sP:0<C.bud)(hbud2:C.bud<=1000)(h:im w b0 ob C.bud EL M.ord)(ts:(EL.map (·.1)).Nodup)(yD:d8 w nb k rb)(kh:nb ∉ EL.map (·.2))(sO:nb≠ob):
  Calls Tryz.prog 238 #[aw ob,aw nb] w fun e w'=>YZ b0 ob eb C M EL k nb w e w':=by
 have eI:M.ord.length=EL.length:=by
  obtain⟨OL,zM,eZ,_⟩:=h.ex
  rw[<-eZ,List.length_map,zM.length_eq]
 obtain⟨fr,Kl,_⟩:=h.free
 refine(IX h sP hbud2 yD kh sO).mono ?_
 intro e w' hA
 have hk:aa (fun j=>j=ob/\C.pol≠0\/j=nb\/(∃x∈EL,x.2=j)\/b0<=j/\∃c,w.heap[j]?=some (.cells c 271 (0,0))) w w':=hA.kept.mono (fun j _ hj=>by
  rcases hj with e1 | e1 | e1
  ·exact .inl ⟨e1,by omega⟩
  ·exact .inr (.inl e1)
  ·exact .inr (.inr (.inl e1)))
 rcases Nat.lt_or_ge EL.length C.bud with hl | hl
 ·have hm:cF C M k=(none,{ M with ord:=k :: M.ord }):=by unfold cF;rw[if_pos hp,if_pos (by omega)]
  obtain⟨rfl,ho⟩:=hA.free hl
  exact⟨⟨none,rfl,.inl ⟨rfl,by rw[hm]⟩⟩,hA.en,fun e1=>by omega,fun _=>by rw[hm];exact ho,hk⟩
 ·have hm:cF C M k=(M.ord.getLast?,{ M with ord:=k :: M.ord.dropLast }):=by unfold cF;rw[if_pos hp,if_neg (by omega)]
  obtain⟨g,gb,h1,h2,rfl,h3⟩:=hA.full (by omega)
  refine⟨⟨some gb,rfl,.inr ⟨g,gb,rfl,by rw[hm];exact h1,h2⟩⟩,hA.en,fun e1=>by omega,fun _=>?_,hk⟩
  rw[hm]
  refine h3 _ ?_
  show (lL EL M.ord.getLast?++[(k,nb)]).Perm _
  rw[h1]
  show (lU EL g++[(k,nb)]).Perm _
  rw[wW EL g gb ts h2]
theorem Fv (EL:List (Ky × Nat))(p:Option Ky):YH EL p=mS (p.bind (oz EL)):=by
 unfold YH
 cases p with
 | none=>rfl
 | some k=>simp only[Option.bind_some];rw[o7]
theorem Ry {b0 ob eb:Nat}{C:Mc}{M:Ms}{EL:List (Ky × Nat)}{k:Ky}{nb rb:Nat}{w:World}(hp:C.pol=1)(sP:0<C.bud)(hbud2:C.bud<=1000)(OE:C.nr<=8)(hk:sB k)(h:tG w b0 ob C.bud C.nr EL M.plc)(ts:(EL.map (·.1)).Nodup)(yD:d8 w nb k rb)(kh:oz EL k=none):
  Calls Tryz.prog 235 #[aw ob,aw nb] w fun e w'=>YZ b0 ob eb C M EL k nb w e w':=by
 obtain⟨pb,h1,h2,h3⟩:=h.blk
 obtain⟨v3,v4,hB⟩:=yD
 obtain⟨p,GG⟩:∃p,p=kN C.nr k%C.bud:=⟨_,rfl⟩
 have sn:p<M.plc.length:=by rw[h.len,GG];exact Nat.mod_lt _ sP
 obtain⟨gk,zK⟩:∃gk,gk=M.plc.getD p none:=⟨_,rfl⟩
 have nQ:M.plc[p]?=some gk:=by rw[zK,List.getD_eq_getElem?_getD,List.getElem?_eq_getElem sn];rfl
 have hm:cF C M k=(gk,{ M with plc:=M.plc.set p (some k) }):=by
  unfold cF
  rw[if_neg (by omega)]
  have:TH C k%C.bud=p:=by rw[GG];rfl
  rw[this,<-zK]
 have Xr:∀g,gk=some g->∃gb,oz EL g=some gb/\(g,gb)∈EL:=by
  intro g e
  rw[e]at nQ
  obtain⟨_,b,hb⟩:=h.is_ p g nQ
  exact⟨b,tT EL g b ts hb,hb⟩
 refine(IW ob pb nb C.bud C.nr k _ (YH EL gk) v3 v4 (aw rb) 280 w hk OE h2 hB h3 sP hbud2 (by
  rw[<-GG]
  simp[nQ])).mono ?_
 rintro e w' ⟨rfl,dm,xp⟩
 rw[<-GG]at dm
 have eW:nb≠pb:=fun e=>by rw[e,h3]at hB;simp at hB
 refine⟨?_,fun b k' rb' he=>?_,fun _=>?_,fun e=>by omega,xp.mono (fun j _ e=>.inr (.inr (.inr ?_)))⟩
 ·rw[hm,Fv]
  cases hgk2:gk with
  | none=>exact⟨none,rfl,.inl ⟨rfl,rfl⟩⟩
  | some g=>
   obtain⟨gb,yE,Nb⟩:=Xr g hgk2
   exact⟨some gb,by simp[yE],.inr ⟨g,gb,rfl,rfl,Nb⟩⟩
 ·refine he.same (xp.block b he.lt (fun e=>?_))
  obtain⟨u3,u4,hu⟩:=he
  have e':b=pb:=e
  rw[e',h3]at hu;simp at hu
 ·rw[hm]
  dsimp only
  have ZB:w'.heap[ob]?=w.heap[ob]?:=xp.block ob (ag (show ai w ob=_ from h2)) (fun e=>by
   have e':ob=pb:=e
   rw[e',h3]at h2;simp at h2)
  have sO:∀k',k'≠k->gk≠some k'->oz (lL EL gk++[(k,nb)]) k'=oz EL k':=by
   intro k' fU nP
   rw[yg,if_neg fU]
   cases gk with
   | none=>simp[lL]
   | some g=>rw[lL,tS EL g k' (fun e=>nP (by rw[e]))];simp
  have ja:oz (lL EL gk++[(k,nb)]) k=some nb:=by
   rw[yg,if_pos rfl]
   cases gk with
   | none=>rw[lL,kh];rfl
   | some g=>
    have:oz (lU EL g) k=none:=by
     by_cases hkg:k=g
     ·cases kM:oz (lU EL g) k with
      | none=>rfl
      | some z=>exact absurd hkg (pe EL g ts _ (s9 _ _ _ kM))
     ·rw[tS EL g k hkg];exact kh
    rw[lL,this];rfl
  refine⟨⟨pb,h1,by rw[ZB];exact h2,?_⟩,by simp[h.len],fun x hx=>?_,fun q k' hq=>?_,h.low⟩
  ·rw[dm]
   congr 2
   rw[List.setIfInBounds_toArray]
   congr 1
   apply List.ext_getElem?
   intro q
   rw[List.getElem?_map,List.getElem?_set,List.getElem?_set,List.length_map]
   by_cases hqp:p=q
   ·subst hqp
    rw[if_pos rfl,if_pos rfl,if_pos sn,if_pos sn]
    simp only[Option.map_some]
    rw[Fv,Option.bind_some,ja]
    rfl
   ·rw[if_neg hqp,if_neg hqp,List.getElem?_map]
    cases hc:M.plc[q]? with
    | none=>rfl
    | some o=>
     simp only[Option.map_some]
     congr 1
     rw[Fv,Fv]
     cases o with
     | none=>rfl
     | some k'=>
      simp only[Option.bind_some]
      have hi:=h.is_ q k' hc
      rw[sO k' (fun e=>hqp (by rw[GG,<-e];exact hi.1)) (fun e=>hqp (by
       rw[e]at nQ
       rw[<-(h.is_ p k' nQ).1];exact hi.1))]
  ·rcases List.mem_append.1 hx with h4 | h4
   ·have hxE:x∈EL:=by
     cases gk with
     | none=>exact h4
     | some g=>exact td EL g x h4
    have dA:=h.at_ x hxE
    have eW:p≠kN C.nr x.1%C.bud:=by
     intro e
     rw[<-e,<-zK]at dA
     rw[dA]at h4
     exact pe EL x.1 ts x h4 rfl
    rw[List.getD_eq_getElem?_getD,List.getElem?_set,if_neg eW,<-List.getD_eq_getElem?_getD]
    exact dA
   ·rw[List.mem_singleton.1 h4]
    dsimp only
    rw[<-GG,List.getD_eq_getElem?_getD,List.getElem?_set,if_pos rfl,if_pos sn]
    rfl
  ·rw[List.getElem?_set]at hq
   by_cases hqp:p=q
   ·rw[if_pos hqp,if_pos sn]at hq
    have:k=k':=by simpa using hq
    rw[<-this,<-hqp,<-GG]
    exact⟨rfl,nb,by simp⟩
   ·rw[if_neg hqp]at hq
    obtain⟨h4,b,h5⟩:=h.is_ q k' hq
    refine⟨h4,b,List.mem_append_left _ ?_⟩
    cases hgk2:gk with
    | none=>exact h5
    | some g=>
     refine Eu EL g (k',b) h5 (fun e=>hqp ?_)
     have e':k'=g:=e
     rw[hgk2,<-e']at nQ
     rw[<-(h.is_ p k' nQ).1];exact h4
 ·have e':j=pb:=e
  rw[e']
  exact⟨h1,_,h3⟩
theorem aM {w:World}{eb:Nat}{o:Obj}{j q:Nat}(h:j≠eb):(b8 w eb o).cell? ⟨j,q,none⟩=w.cell? ⟨j,q,none⟩:=by
 have:(b8 w eb o).heap[j]?=w.heap[j]?:=by
  show (w.heap.setIfInBounds eb o)[j]?=_
  rw[Array.getElem?_setIfInBounds_ne (fun e=>h e.symm)]
 simp only[World.cell?,this]
theorem Bi {w:World}{eb:Nat}{o:Obj}{j:Nat}(h:j≠eb):(b8 w eb o).heap[j]?=w.heap[j]?:=by
 show (w.heap.setIfInBounds eb o)[j]?=_
 rw[Array.getElem?_setIfInBounds_ne (fun e=>h e.symm)]
theorem pM {w w2 w3 W:World}{b0 mb eb ob nb rb:Nat}{EL:List (Ky × Nat)}{C:Mc}{R:Nat->Rs->Prop}{M:Ms}{k:Ky}{r:Rs}{e:Ending}(h:iF w b0 mb eb ob EL C R M)(hk:sB k)(hR:R rb r)(iw:C.pol≠0)(hO:YZ b0 ob eb C M EL k nb w2.drew e w3)(rj:∀b k rb,d8 w b k rb->d8 w2.drew b k rb)(we:d8 w2.drew nb k rb)(kh:oz EL k=none)(ew:b0<=nb)
  (hS:∀j,(j=ob/\C.pol≠0\/j=nb\/(∃x∈EL,x.2=j)\/b0<=j/\∃c,w2.drew.heap[j]?=some (.cells c 271 (0,0)))->j≠mb/\j≠eb)
  (dY:w3.heap[mb]?=some (.cells #[.int .i64 (C.mask:Int),iU C ob,.int .i32 1,.int .u32 0,.map (some eb),.int .i64 (M.hits:Int)] 218 (0,0))) (kv:ei w3 eb EL) (ES:aa (·=eb) w3 W) (pG:ei W eb (lL EL (cF C M k).1++[(k,nb)])):
  iF (W.setCell ⟨mb,2,none⟩ (.int .i32 0)) b0 mb eb ob (lL EL (cF C M k).1++[(k,nb)]) C R { eX (cF C M k).2 (cF C M k).1 with ent:=(eX (cF C M k).2 (cF C M k).1).ent++[(k,r)] }:=by
 have oF:=h.apart
 have dL:∀x∈lL EL (cF C M k).1,x∈EL:=by
  intro x hx
  cases hg:(cF C M k).1 with
  | none=>rw[hg]at hx;exact hx
  | some g=>rw[hg]at hx;exact td EL g x hx
 have qbd:((lL EL (cF C M k).1).map (·.1)).Nodup:=by
  cases hg:(cF C M k).1 with
  | none=>exact h.nd
  | some g=>exact Jx EL g h.nd
 have qa2:k ∉ EL.map (·.1):=by
  intro hx
  obtain⟨x,hx,e⟩:=List.mem_map.1 hx
  have:=tT EL x.1 x.2 h.nd hx
  rw[e,kh]at this;cases this
 have Gl:(cF C M k).2.ent=M.ent/\(cF C M k).2.hits=M.hits:=by unfold cF;(repeat' split) <;> exact⟨rfl,rfl⟩
 have Kh:(eX (cF C M k).2 (cF C M k).1).ent=match (cF C M k).1 with | none=>M.ent | some g=>CN M.ent g:=by
  cases hg:(cF C M k).1 with
  | none=>simp[eX,Gl.1]
  | some g=>simp[eX,Gl.1]
 have Xs:(eX (cF C M k).2 (cF C M k).1).hits=M.hits:=by
  cases hg:(cF C M k).1 with
  | none=>simp[eX,Gl.2]
  | some g=>simp[eX,Gl.2]
 have X3:(eX (cF C M k).2 (cF C M k).1).plc=(cF C M k).2.plc/\(eX (cF C M k).2 (cF C M k).1).ord=(cF C M k).2.ord:=by
  cases hg:(cF C M k).1 with
  | none=>exact⟨rfl,rfl⟩
  | some g=>exact⟨rfl,rfl⟩
 have qaK:∀b k' q,d8 w b k' q->d8 W b k' q:=fun b k' q h'=>by
  have h1:=hO.en _ _ _ (rj _ _ _ h')
  refine h1.same (ES.block b h1.lt (fun e=>?_))
  obtain⟨v3,v4,h2⟩:=h'
  obtain⟨es,c,hm,_⟩:=h.map
  have e':b=eb:=e
  rw[e',hm]at h2;simp at h2
 have Xg:d8 W nb k rb:=by
  have h1:=hO.en _ _ _ we
  exact h1.same (ES.block nb h1.lt (fun e=>(hS nb (.inr (.inl rfl))).2 e))
 have hF:F2 (Pw W R) EL M.ent:=h.f2.mono (fun a b _ gu=>⟨gu.1,by obtain⟨q,h1,h2⟩:=gu.2;exact⟨q,qaK _ _ _ h1,h2⟩⟩)
 have sG:F2 (Pw W R) (lL EL (cF C M k).1) (eX (cF C M k).2 (cF C M k).1).ent:=by
  rw[Kh]
  cases hg:(cF C M k).1 with
  | none=>exact hF
  | some g=>exact hF.rm g
 have qa5:W.heap[mb]?=_:=(ES.block mb (ag (show ai w3 mb=_ from dY)) (fun e=>oF.1 e.symm)).trans dY
 have qcD:∀j c t,w3.heap[j]?=some (.cells c t (0,0))->j≠eb->W.heap[j]?=w3.heap[j]?:=fun j c t hj eW=>ES.block j (ag (show ai w3 j=_ from hj)) eW
 refine iF.mk5 h.ok (by rw[show ({ eX (cF C M k).2 (cF C M k).1 with ent:=(eX (cF C M k).2 (cF C M k).1).ent++[(k,r)] }:Ms).hits=M.hits from Xs];exact qa5) pG (sG.app (.cons ⟨rfl,rb,Xg,hR⟩ .nil)) ?_ ?_ ⟨h.low.1,h.low.2.1,?_⟩ iw (fun hp=>?_) (fun hp=>?_) (by rw[show ({ eX (cF C M k).2 (cF C M k).1 with ent:=(eX (cF C M k).2 (cF C M k).1).ent++[(k,r)] }:Ms).hits=M.hits from Xs];exact h.hits)
 ·rw[List.map_append,List.nodup_append]
  refine⟨qbd,by simp,fun a ha b hb e=>?_⟩
  have jq:b=k:=by simpa using hb
  obtain⟨x,hx,e1⟩:=List.mem_map.1 ha
  exact qa2 (by rw[<-jq,<-e,<-e1];exact List.mem_map_of_mem (dL x hx))
 ·intro x hx
  rcases List.mem_append.1 hx with h1 | h1
  ·exact h.in_ x (dL x h1)
  ·rw[List.mem_singleton.1 h1];exact hk
 ·intro x hx
  rcases List.mem_append.1 hx with h1 | h1
  ·exact h.low.2.2 x (dL x h1)
  ·rw[List.mem_singleton.1 h1];exact ew
 ·rw[show ({ eX (cF C M k).2 (cF C M k).1 with ent:=(eX (cF C M k).2 (cF C M k).1).ent++[(k,r)] }:Ms).plc=(cF C M k).2.plc from X3.1]
  exact(hO.dir hp).kept ES (fun j c t f hc ht e=>by
   have e':j=eb:=e
   obtain⟨es,cl,hm,_⟩:=kv
   rw[e',hm]at hc;simp at hc)
 ·rw[show ({ eX (cF C M k).2 (cF C M k).1 with ent:=(eX (cF C M k).2 (cF C M k).1).ent++[(k,r)] }:Ms).ord=(cF C M k).2.ord from X3.2]
  refine(hO.old hp).kept ES (oF.2.1 iw).2 (fun x hx=>?_)
  rcases List.mem_append.1 hx with h1 | h1
  ·exact(oF.2.2 x (dL x h1)).2.1
  ·rw[List.mem_singleton.1 h1];exact(hS nb (.inr (.inl rfl))).2
theorem GT (b0 mb eb ob:Nat)(EL:List (Ky × Nat))(C:Mc)(R:Nat->Rs->Prop)(M:Ms)(k:Ky)(rb:Nat)(r:Rs)(w:World)(h:iF w b0 mb eb ob EL C R M)(hk:sB k)(h1:¬C.mask / 2^k.rule%2=0)(hR:R rb r)(hx:m9 EL k 0=none):
  Calls Tryz.prog 152 #[aw mb,lG k,aw rb] w fun e w'=>D5 b0 mb C R (eD C M k r) w e w':=by
 have hb:=h.blk
 have oF:=h.apart
 have c0:w.cell? ⟨mb,0,none⟩=some (.int .i64 (C.mask:Int)):=by simp[World.cell?,hb]
 have c2:w.cell? ⟨mb,2,none⟩=some (.int .i32 0):=by simp[World.cell?,hb]
 have f2:w.frozen? ⟨mb,2,none⟩=false:=by simp[World.frozen?,hb]
 have AQ:=av c0
 have XD:=hk.rule
 have hq:=CF h.ok.mask XD
 rw[decide_eq_false h1]at hq
 have hg:=ub EL M.ent k 0 h.keys hx
 have iw:C.pol≠0:=fun e=>by
  rcases h.ok.pol with h2 | h2
  ·rw[h2.2]at h1;simp at h1
  ·omega
 have sP:0<C.bud:=(h.ok.pol.resolve_left (fun e=>iw e.1)).2
 have HM:Hid (eD C M k r={ eX (cF C M k).2 (cF C M k).1 with ent:=(eX (cF C M k).2 (cF C M k).1).ent++[(k,r)] }):=by
  unfold Hid eD;rw[if_neg h1,hg];rfl
 have hL:=fun(W:World) (hc:W.cell? ⟨mb,2,none⟩=some (.int .i32 0)) (hf:W.frozen? ⟨mb,2,none⟩=false)=>lock_free Tryz.muLib ⟨mb,2,none⟩ W hc hf
 unfold lG aw at *
 clear hb
 go_enter_defers Tryz.func152,Tryz.ntmps152
 go_wp2_with fail
 go_quiet (fail)
 go_wp2_with fail
 refine(hL _ (by go_simp) (by go_simp)).mono ?_
 rintro e w2 ⟨rfl,rfl⟩
 go_wp2_with fail
 have hF:=h.locked k nq
 obtain⟨w1,dZ⟩:∃w1,w1=(((w.alloc (.cells #[.int .i64 (k.inp:Int),.int .i64 (k.rule:Int),.int .i64 (k.place:Int)] 225)).drewN nq).setCell ⟨mb,2,none⟩ (.int .i32 1)):=⟨_,rfl⟩
 rw[<-dZ]at hF
 rw[<-dZ]
 clear dZ c0 c2 f2 hL hq
 have pE:=hF.look
 rw[hx]at pE
 simp only[Option.map_none,Option.isSome_none,mS]at pE
 have d4:w1.cell? ⟨mb,4,none⟩=some (.map (some eb)):=by simp[World.cell?,hF.blk]
 have k0:w1.cell? ⟨w.heap.size,0,none⟩=some (.int .i64 (k.inp:Int)):=by simp[World.cell?,hF.key]
 have k1:w1.cell? ⟨w.heap.size,1,none⟩=some (.int .i64 (k.rule:Int)):=by simp[World.cell?,hF.key]
 have k2:w1.cell? ⟨w.heap.size,2,none⟩=some (.int .i64 (k.place:Int)):=by simp[World.cell?,hF.key]
 go_quiet (fail)
 go_wp2_with fail
 obtain⟨nb,oe⟩:∃nb,nb=w1.heap.size:=⟨_,rfl⟩
 obtain⟨w2,gQ⟩:∃w2,w2=(w1.drewN nq).alloc (.cells #[.int .i64 (k.inp:Int),.int .i64 (k.rule:Int),.int .i64 (k.place:Int),.pointer none,.pointer none,.pointer (some ⟨rb,0,none⟩)] 280):=⟨_,rfl⟩
 rw[<-gQ]
 have wg:aa (fun _=>False) w1 w2:=by rw[gQ];exact((aa.refl (fun _=>False) w1).drewN _).alloc _
 have qbc:w2.heap[nb]?=some (.cells #[.int .i64 (k.inp:Int),.int .i64 (k.rule:Int),.int .i64 (k.place:Int),.pointer none,.pointer none,.pointer (some ⟨rb,0,none⟩)] 280 (0,0)):=by
  rw[gQ,oe];exact heap_alloc_new (w1.drewN nq) _
 have sV:w2.heap.size=nb+1:=by rw[gQ,oe];simp
 have SG:mb<w1.heap.size:=ag (show ai w1 mb=_ from hF.blk)
 have eL:w2.heap[mb]?=_:=(wg.block mb SG (fun x=>x)).trans hF.blk
 have AH:w2.heap[w.heap.size]?=_:=(wg.block _ (ag (show ai w1 w.heap.size=_ from hF.key)) (fun x=>x)).trans hF.key
 have pF:ei w2 eb EL:=hF.map.same (wg.block eb hF.map.lt (fun x=>x))
 have co:aa (·=mb) w w2:=hF.kept.trans (wg.mono (fun j _ e=>e.elim))
 have qc2:w.heap.size<nb:=by rw[oe,hF.size];omega
 have we:d8 w2.drew nb k rb:=⟨_,_,qbc⟩
 have rj:∀b k rb,d8 w b k rb->d8 w2.drew b k rb:=fun b k rb h'=>h'.same (co.drew.block b h'.lt (fun e=>by
  obtain⟨v3,v4,h3⟩:=h'
  have e':b=mb:=e
  rw[e',h.blk]at h3;simp at h3))
 have bj:∀x∈EL,x.2<w.heap.size:=fun x hx=>by obtain⟨q,hq⟩:=h.en_at hx;exact hq.lt
 have qbh:nb ∉ EL.map (·.2):=fun hx=>by
  obtain⟨x,hx,e⟩:=List.mem_map.1 hx
  have:=bj x hx
  omega
 have C6:oz EL k=none:=by rw[<-o7 EL k 0,hx];rfl
 have hA:∀F,(C.pol=1/\F=235\/C.pol=2/\F=238)->Calls Tryz.prog F #[.pointer (some ⟨ob,0,none⟩),.pointer (some ⟨nb,0,none⟩)] w2.drew fun e w'=>YZ b0 ob eb C M EL k nb w2.drew e w':=by
  intro F hFp
  rcases hFp with⟨hp,rfl⟩ | ⟨hp,rfl⟩
  ·exact Ry hp sP h.ok.bud h.ok.nr hk ((h.dir hp).kept co.drew (fun j c t f hc ht e=>by
    have e':j=mb:=e
    rw[e',h.blk]at hc
    rcases ht with rfl | rfl <;> simp at hc)) h.nd we C6
  ·exact Rz hp sP h.ok.bud ((h.old hp).kept co.drew (oF.2.1 iw).1 (fun e he=>(oF.2.2 e he).1)) h.nd we qbh (fun e=>by
    have:=(h.old hp).ob_lt
    omega)
 have hS:∀j,(j=ob/\C.pol≠0\/j=nb\/(∃x∈EL,x.2=j)\/b0<=j/\∃c,w2.drew.heap[j]?=some (.cells c 271 (0,0)))->j≠mb/\j≠eb/\j≠w.heap.size:=by
  intro j hj
  have tg:=h.map.lt
  have XJ:mb<w.heap.size:=AQ
  rcases hj with⟨rfl,hp⟩ | rfl | ⟨x,hx,rfl⟩ | ⟨_,c,hc⟩
  ·have KG:j<w.heap.size:=by
    rcases(h.ok.pol.resolve_left (fun e=>hp e.1)).1 with zM | zM
    ·obtain⟨pb,_,h2,_⟩:=(h.dir zM).blk
     exact ag (show ai w j=_ from h2)
    ·exact(h.old zM).ob_lt
   exact⟨(oF.2.1 hp).1,(oF.2.1 hp).2,by omega⟩
  ·exact⟨by omega,by omega,by omega⟩
  ·have:=bj x hx
   exact⟨(oF.2.2 x hx).1,(oF.2.2 x hx).2.1,by omega⟩
  ·have si:w2.heap[j]?=some (.cells c 271 (0,0)):=hc
   refine⟨fun e=>?_,fun e=>?_,fun e=>?_⟩
   ·rw[e,eL]at si;simp at si
   ·obtain⟨es,cl,hm,_⟩:=pF
    rw[e,hm]at si;simp at si
   ·rw[e,AH]at si;simp at si
 have OB:∀(W w3:World),aa (fun j=>j=ob/\C.pol≠0\/j=nb\/(∃x∈EL,x.2=j)\/b0<=j/\∃c,w2.drew.heap[j]?=some (.cells c 271 (0,0))) w2.drew w3->aa (·=eb) w3 W->aa (Mw b0 w) w W:=by
  intro W w3 ha hb
  refine(aa.then (S:=Mw b0 w) ((co.drew.mono (T:=Mw b0 w) (fun j _ e=>h.mw (.inl e)))) ha (fun j hj hx=>?_)).then hb (fun j hj e=>?_)
  ·rcases hx with hx | hx | hx | ⟨hx1,c,hx2⟩
   ·exact h.mw (.inr (.inl hx))
   ·omega
   ·exact h.mw (.inr (.inr hx))
   ·refine⟨hx1,fun c' t f hc=>?_⟩
    have hjm:j≠mb:=fun e=>by
     have Yo:w2.heap[j]?=some (.cells c 271 (0,0)):=hx2
     rw[e,eL]at Yo;simp at Yo
    have:=co.drew.block j hj hjm
    rw[hx2]at this
    rw[hc]at this
    simp at this
    exact .inr (.inr (.inr (.inr this.2.1.symm)))
  ·have e':j=eb:=e
   subst e'
   obtain⟨es,cl,hm,_⟩:=h.map
   exact⟨h.low.2.1,fun c t f hc=>by rw[hm]at hc;simp at hc⟩
 clear hF gQ d4 k0 k1 k2 pE
 subst oe
 rcases(h.ok.pol.resolve_left (fun e=>iw e.1)).1 with hp | hp
 ·have yL:iU C ob=.iface 219 (.pointer (some ⟨ob,0,none⟩)):=by unfold iU aw;rw[if_pos hp]
  have XK:=G7 ⟨ob,0,none⟩
  have hAF:=hA 235 (.inl ⟨hp,rfl⟩)
  have g1:w2.cell? ⟨mb,1,none⟩=some (.iface 219 (.pointer (some ⟨ob,0,none⟩))):=by rw[<-yL];simp[World.cell?,eL]
  have uB:mb<w2.drew.heap.size:=ag (show ai w2 mb=_ from eL)
  clear hA
  go_region_held3 (fun w'=>w'.cell? ⟨mb,1,none⟩=some (.iface 219 (.pointer (some ⟨ob,0,none⟩)))) (go_keep) ((go_at_call 235;refine hAF.mono ?_;rintro e w3 hO;obtain⟨g,rfl,Ko⟩:=hO.res;have g1':w3.cell? ⟨mb,1,none⟩=some (.iface 219 (.pointer (some ⟨ob,0,none⟩))):=(hO.kept.cell (p:=⟨mb,1,none⟩) uB (fun e=>(hS mb e).1 rfl)).trans g1))
  have dY:=(hO.kept.block mb uB (fun e=>(hS mb e).1 rfl)).trans eL
  have uy:=(hO.kept.block _ (ag (show ai w2 w.heap.size=_ from AH)) (fun e=>(hS _ e).2.2 rfl)).trans AH
  have kv:ei w3 eb EL:=pF.same (hO.kept.block eb pF.lt (fun e=>(hS eb e).2.1 rfl))
  have m2:w3.cell? ⟨mb,2,none⟩=some (.int .i32 1):=by simp[World.cell?,dY]
  have m3:w3.frozen? ⟨mb,2,none⟩=false:=by simp[World.frozen?,dY]
  have m4:w3.cell? ⟨mb,4,none⟩=some (.map (some eb)):=by simp[World.cell?,dY]
  have q0:w3.cell? ⟨w.heap.size,0,none⟩=some (.int .i64 (k.inp:Int)):=by simp[World.cell?,uy]
  have q1:w3.cell? ⟨w.heap.size,1,none⟩=some (.int .i64 (k.rule:Int)):=by simp[World.cell?,uy]
  have q2:w3.cell? ⟨w.heap.size,2,none⟩=some (.int .i64 (k.place:Int)):=by simp[World.cell?,uy]
  have tg:=h.map.lt
  have mD:mb≠eb:=fun e=>oF.1 e.symm
  have lf:w.heap.size≠eb:=by omega
  rcases Ko with⟨rfl,hgn⟩ | ⟨gk,gb,rfl,hgn,oI⟩
  ·obtain⟨o,Df,pG⟩:=tC (show ei w3.drew eb EL from kv) k hx w1.heap.size
   unfold lG aw at Df
   have RS:lL EL (cF C M k).1=EL:=by rw[hgn];rfl
   have eO:=pM (W:=b8 w3.drew eb o) (r:=r) h hk hR iw hO rj we C6 (by have:=h.low.1;omega) (fun j hj=>⟨(hS j hj).1,(hS j hj).2.1⟩) dY kv ((aa.refl (·=eb) w3).drew.trans (fB _ _ _)) (by rw[RS];exact pG)
   have ES:aa (Mw b0 w) w (b8 w3.drew eb o):=OB (b8 w3.drew eb o) w3 hO.kept ((aa.refl (·=eb) w3).drew.trans (fB _ _ _))
   have n2:(b8 w3.drew eb o).cell? ⟨mb,2,none⟩=some (.int .i32 1):=(aM mD).trans m2
   have n4:(b8 w3.drew eb o).cell? ⟨mb,4,none⟩=some (.map (some eb)):=(aM mD).trans m4
   have n5:(b8 w3.drew eb o).cell? ⟨w.heap.size,0,none⟩=some (.int .i64 (k.inp:Int)):=(aM lf).trans q0
   have n6:(b8 w3.drew eb o).cell? ⟨w.heap.size,1,none⟩=some (.int .i64 (k.rule:Int)):=(aM lf).trans q1
   have n7:(b8 w3.drew eb o).cell? ⟨w.heap.size,2,none⟩=some (.int .i64 (k.place:Int)):=(aM lf).trans q2
   have n3:(b8 w3.drew eb o).frozen? ⟨mb,2,none⟩=false:=by
    have hx:=(Bi (w:=w3.drew) (eb:=eb) (o:=o) mD).trans dY
    simp[World.frozen?,hx]
   simp only[mS,Option.map_none]
   go_wp2_with fail
   go_region_held3 (fun w'=>w'.cell? ⟨mb,4,none⟩=some (.map (some eb))/\w'.cell? ⟨w.heap.size,0,none⟩=some (.int .i64 (k.inp:Int))/\w'.cell? ⟨w.heap.size,1,none⟩=some (.int .i64 (k.rule:Int))/\w'.cell? ⟨w.heap.size,2,none⟩=some (.int .i64 (k.place:Int))) (go_keep) (fail)
   go_wp2
   refine leaves_cons (f:=109) (args:=#[.pointer (some ⟨mb,2,none⟩)]) (by simp) (by simp[go_sem]) ?_
   refine(unlock_deferred Tryz.muLib ⟨mb,2,none⟩ .returning (b8 w3.drew eb o) n2 n3).mono ?_
   rintro e u' w'' ⟨rfl,rfl,rfl⟩
   rw[HM.out]
   exact⟨_,results_none rfl _ _ _,rfl,⟨eb,ob,_,eO⟩,aa.setCell (S:=Mw b0 w) ES (p:=⟨mb,2,none⟩) (fun _=>h.mw (.inl rfl)) _⟩
  ·obtain⟨qb,Km⟩:=h.en_at oI
   dsimp only at Km
   have Kn:d8 w3 gb gk qb:=hO.en _ _ _ (rj _ _ _ Km)
   obtain⟨u3,u4,mA⟩:=Kn
   have y0:w3.cell? ⟨gb,0,none⟩=some (.int .i64 (gk.inp:Int)):=by simp[World.cell?,mA]
   have y1:w3.cell? ⟨gb,1,none⟩=some (.int .i64 (gk.rule:Int)):=by simp[World.cell?,mA]
   have y2:w3.cell? ⟨gb,2,none⟩=some (.int .i64 (gk.place:Int)):=by simp[World.cell?,mA]
   have Dc:gb≠eb:=(oF.2.2 _ oI).2.1
   obtain⟨o1,Kf,AP⟩:=Es (show ei w3.drew eb EL from kv) gk
   obtain⟨w4,ib⟩:∃w4,w4=b8 w3.drew eb o1:=⟨_,rfl⟩
   rw[<-ib]at Kf AP
   have Sy:aa (·=eb) w3 w4:=by rw[ib];exact(aa.refl (·=eb) w3).drew.trans (fB _ _ _)
   have p4:w4.cell? ⟨mb,4,none⟩=some (.map (some eb)):=by rw[ib];exact(aM mD).trans m4
   have p5:w4.cell? ⟨w.heap.size,0,none⟩=some (.int .i64 (k.inp:Int)):=by rw[ib];exact(aM lf).trans q0
   have p6:w4.cell? ⟨w.heap.size,1,none⟩=some (.int .i64 (k.rule:Int)):=by rw[ib];exact(aM lf).trans q1
   have p7:w4.cell? ⟨w.heap.size,2,none⟩=some (.int .i64 (k.place:Int)):=by rw[ib];exact(aM lf).trans q2
   have z0:w4.cell? ⟨gb,0,none⟩=some (.int .i64 (gk.inp:Int)):=by rw[ib];exact(aM Dc).trans y0
   have z1:w4.cell? ⟨gb,1,none⟩=some (.int .i64 (gk.rule:Int)):=by rw[ib];exact(aM Dc).trans y1
   have z2:w4.cell? ⟨gb,2,none⟩=some (.int .i64 (gk.place:Int)):=by rw[ib];exact(aM Dc).trans y2
   have hbD:oz (lU EL gk) k=none:=by
    by_cases hkg:k=gk
    ·cases kM:oz (lU EL gk) k with
     | none=>rfl
     | some z=>exact absurd hkg (pe EL gk h.nd _ (s9 _ _ _ kM))
    ·rw[tS EL gk k hkg];exact C6
   have hfD:m9 (lU EL gk) k 0=none:=by
    have:=o7 (lU EL gk) k 0
    rw[hbD]at this
    simpa using this
   obtain⟨o,Df,pG⟩:=tC (show ei w4.drew eb (lU EL gk) from AP) k hfD w1.heap.size
   unfold lG aw at Df
   unfold lG at Kf
   have RS:lL EL (cF C M k).1=lU EL gk:=by rw[hgn];rfl
   have C9:aa (·=eb) w3 (b8 w4.drew eb o):=Sy.trans ((aa.refl (·=eb) w4).drew.trans (fB _ _ _))
   have eO:=pM (W:=b8 w4.drew eb o) (r:=r) h hk hR iw hO rj we C6 (by have:=h.low.1;omega) (fun j hj=>⟨(hS j hj).1,(hS j hj).2.1⟩) dY kv C9 (by rw[RS];exact pG)
   have ES:aa (Mw b0 w) w (b8 w4.drew eb o):=OB (b8 w4.drew eb o) w3 hO.kept C9
   have s2:w4.cell? ⟨mb,2,none⟩=some (.int .i32 1):=by rw[ib];exact(aM mD).trans m2
   have n2:(b8 w4.drew eb o).cell? ⟨mb,2,none⟩=some (.int .i32 1):=(aM mD).trans s2
   have n4:(b8 w4.drew eb o).cell? ⟨mb,4,none⟩=some (.map (some eb)):=(aM mD).trans p4
   have n5:(b8 w4.drew eb o).cell? ⟨w.heap.size,0,none⟩=some (.int .i64 (k.inp:Int)):=(aM lf).trans p5
   have n6:(b8 w4.drew eb o).cell? ⟨w.heap.size,1,none⟩=some (.int .i64 (k.rule:Int)):=(aM lf).trans p6
   have n7:(b8 w4.drew eb o).cell? ⟨w.heap.size,2,none⟩=some (.int .i64 (k.place:Int)):=(aM lf).trans p7
   have n3:(b8 w4.drew eb o).frozen? ⟨mb,2,none⟩=false:=by
    have hx:=(C9.block mb (ag (show ai w3 mb=_ from dY)) mD).trans dY
    simp[World.frozen?,hx]
   clear ib
   simp only[mS,Option.map_some]
   go_wp2_with fail
   go_region_held3 (fun w'=>w'.cell? ⟨mb,4,none⟩=some (.map (some eb))/\w'.cell? ⟨gb,0,none⟩=some (.int .i64 (gk.inp:Int))/\w'.cell? ⟨gb,1,none⟩=some (.int .i64 (gk.rule:Int))/\w'.cell? ⟨gb,2,none⟩=some (.int .i64 (gk.place:Int))) (go_keep) (fail)
   go_wp2_with fail
   go_region_held3 (fun w'=>w'.cell? ⟨mb,4,none⟩=some (.map (some eb))/\w'.cell? ⟨w.heap.size,0,none⟩=some (.int .i64 (k.inp:Int))/\w'.cell? ⟨w.heap.size,1,none⟩=some (.int .i64 (k.rule:Int))/\w'.cell? ⟨w.heap.size,2,none⟩=some (.int .i64 (k.place:Int))) (go_keep) (fail)
   go_wp2
   refine leaves_cons (f:=109) (args:=#[.pointer (some ⟨mb,2,none⟩)]) (by simp) (by simp[go_sem]) ?_
   refine(unlock_deferred Tryz.muLib ⟨mb,2,none⟩ .returning (b8 w4.drew eb o) n2 n3).mono ?_
   rintro e u' w'' ⟨rfl,rfl,rfl⟩
   rw[HM.out]
   exact⟨_,results_none rfl _ _ _,rfl,⟨eb,ob,_,eO⟩,aa.setCell (S:=Mw b0 w) ES (p:=⟨mb,2,none⟩) (fun _=>h.mw (.inl rfl)) _⟩
 ·have yL:iU C ob=.iface 221 (.pointer (some ⟨ob,0,none⟩)):=by unfold iU aw;rw[if_neg (by omega),if_pos hp]
  have XK:=G8 ⟨ob,0,none⟩
  have hAF:=hA 238 (.inr ⟨hp,rfl⟩)
  have g1:w2.cell? ⟨mb,1,none⟩=some (.iface 221 (.pointer (some ⟨ob,0,none⟩))):=by rw[<-yL];simp[World.cell?,eL]
  have uB:mb<w2.drew.heap.size:=ag (show ai w2 mb=_ from eL)
  clear hA
  go_region_held3 (fun w'=>w'.cell? ⟨mb,1,none⟩=some (.iface 221 (.pointer (some ⟨ob,0,none⟩)))) (go_keep) ((go_at_call 238;refine hAF.mono ?_;rintro e w3 hO;obtain⟨g,rfl,Ko⟩:=hO.res;have g1':w3.cell? ⟨mb,1,none⟩=some (.iface 221 (.pointer (some ⟨ob,0,none⟩))):=(hO.kept.cell (p:=⟨mb,1,none⟩) uB (fun e=>(hS mb e).1 rfl)).trans g1))
  have dY:=(hO.kept.block mb uB (fun e=>(hS mb e).1 rfl)).trans eL
  have uy:=(hO.kept.block _ (ag (show ai w2 w.heap.size=_ from AH)) (fun e=>(hS _ e).2.2 rfl)).trans AH
  have kv:ei w3 eb EL:=pF.same (hO.kept.block eb pF.lt (fun e=>(hS eb e).2.1 rfl))
  have m2:w3.cell? ⟨mb,2,none⟩=some (.int .i32 1):=by simp[World.cell?,dY]
  have m3:w3.frozen? ⟨mb,2,none⟩=false:=by simp[World.frozen?,dY]
  have m4:w3.cell? ⟨mb,4,none⟩=some (.map (some eb)):=by simp[World.cell?,dY]
  have q0:w3.cell? ⟨w.heap.size,0,none⟩=some (.int .i64 (k.inp:Int)):=by simp[World.cell?,uy]
  have q1:w3.cell? ⟨w.heap.size,1,none⟩=some (.int .i64 (k.rule:Int)):=by simp[World.cell?,uy]
  have q2:w3.cell? ⟨w.heap.size,2,none⟩=some (.int .i64 (k.place:Int)):=by simp[World.cell?,uy]
  have tg:=h.map.lt
  have mD:mb≠eb:=fun e=>oF.1 e.symm
  have lf:w.heap.size≠eb:=by omega
  rcases Ko with⟨rfl,hgn⟩ | ⟨gk,gb,rfl,hgn,oI⟩
  ·obtain⟨o,Df,pG⟩:=tC (show ei w3.drew eb EL from kv) k hx w1.heap.size
   unfold lG aw at Df
   have RS:lL EL (cF C M k).1=EL:=by rw[hgn];rfl
   have eO:=pM (W:=b8 w3.drew eb o) (r:=r) h hk hR iw hO rj we C6 (by have:=h.low.1;omega) (fun j hj=>⟨(hS j hj).1,(hS j hj).2.1⟩) dY kv ((aa.refl (·=eb) w3).drew.trans (fB _ _ _)) (by rw[RS];exact pG)
   have ES:aa (Mw b0 w) w (b8 w3.drew eb o):=OB (b8 w3.drew eb o) w3 hO.kept ((aa.refl (·=eb) w3).drew.trans (fB _ _ _))
   have n2:(b8 w3.drew eb o).cell? ⟨mb,2,none⟩=some (.int .i32 1):=(aM mD).trans m2
   have n4:(b8 w3.drew eb o).cell? ⟨mb,4,none⟩=some (.map (some eb)):=(aM mD).trans m4
   have n5:(b8 w3.drew eb o).cell? ⟨w.heap.size,0,none⟩=some (.int .i64 (k.inp:Int)):=(aM lf).trans q0
   have n6:(b8 w3.drew eb o).cell? ⟨w.heap.size,1,none⟩=some (.int .i64 (k.rule:Int)):=(aM lf).trans q1
   have n7:(b8 w3.drew eb o).cell? ⟨w.heap.size,2,none⟩=some (.int .i64 (k.place:Int)):=(aM lf).trans q2
   have n3:(b8 w3.drew eb o).frozen? ⟨mb,2,none⟩=false:=by
    have hx:=(Bi (w:=w3.drew) (eb:=eb) (o:=o) mD).trans dY
    simp[World.frozen?,hx]
   simp only[mS,Option.map_none]
   go_wp2_with fail
   go_region_held3 (fun w'=>w'.cell? ⟨mb,4,none⟩=some (.map (some eb))/\w'.cell? ⟨w.heap.size,0,none⟩=some (.int .i64 (k.inp:Int))/\w'.cell? ⟨w.heap.size,1,none⟩=some (.int .i64 (k.rule:Int))/\w'.cell? ⟨w.heap.size,2,none⟩=some (.int .i64 (k.place:Int))) (go_keep) (fail)
   go_wp2
   refine leaves_cons (f:=109) (args:=#[.pointer (some ⟨mb,2,none⟩)]) (by simp) (by simp[go_sem]) ?_
   refine(unlock_deferred Tryz.muLib ⟨mb,2,none⟩ .returning (b8 w3.drew eb o) n2 n3).mono ?_
   rintro e u' w'' ⟨rfl,rfl,rfl⟩
   rw[HM.out]
   exact⟨_,results_none rfl _ _ _,rfl,⟨eb,ob,_,eO⟩,aa.setCell (S:=Mw b0 w) ES (p:=⟨mb,2,none⟩) (fun _=>h.mw (.inl rfl)) _⟩
  ·obtain⟨qb,Km⟩:=h.en_at oI
   dsimp only at Km
   have Kn:d8 w3 gb gk qb:=hO.en _ _ _ (rj _ _ _ Km)
   obtain⟨u3,u4,mA⟩:=Kn
   have y0:w3.cell? ⟨gb,0,none⟩=some (.int .i64 (gk.inp:Int)):=by simp[World.cell?,mA]
   have y1:w3.cell? ⟨gb,1,none⟩=some (.int .i64 (gk.rule:Int)):=by simp[World.cell?,mA]
   have y2:w3.cell? ⟨gb,2,none⟩=some (.int .i64 (gk.place:Int)):=by simp[World.cell?,mA]
   have Dc:gb≠eb:=(oF.2.2 _ oI).2.1
   obtain⟨o1,Kf,AP⟩:=Es (show ei w3.drew eb EL from kv) gk
   obtain⟨w4,ib⟩:∃w4,w4=b8 w3.drew eb o1:=⟨_,rfl⟩
   rw[<-ib]at Kf AP
   have Sy:aa (·=eb) w3 w4:=by rw[ib];exact(aa.refl (·=eb) w3).drew.trans (fB _ _ _)
   have p4:w4.cell? ⟨mb,4,none⟩=some (.map (some eb)):=by rw[ib];exact(aM mD).trans m4
   have p5:w4.cell? ⟨w.heap.size,0,none⟩=some (.int .i64 (k.inp:Int)):=by rw[ib];exact(aM lf).trans q0
   have p6:w4.cell? ⟨w.heap.size,1,none⟩=some (.int .i64 (k.rule:Int)):=by rw[ib];exact(aM lf).trans q1
   have p7:w4.cell? ⟨w.heap.size,2,none⟩=some (.int .i64 (k.place:Int)):=by rw[ib];exact(aM lf).trans q2
   have z0:w4.cell? ⟨gb,0,none⟩=some (.int .i64 (gk.inp:Int)):=by rw[ib];exact(aM Dc).trans y0
   have z1:w4.cell? ⟨gb,1,none⟩=some (.int .i64 (gk.rule:Int)):=by rw[ib];exact(aM Dc).trans y1
   have z2:w4.cell? ⟨gb,2,none⟩=some (.int .i64 (gk.place:Int)):=by rw[ib];exact(aM Dc).trans y2
   have hbD:oz (lU EL gk) k=none:=by
    by_cases hkg:k=gk
    ·cases kM:oz (lU EL gk) k with
     | none=>rfl
     | some z=>exact absurd hkg (pe EL gk h.nd _ (s9 _ _ _ kM))
    ·rw[tS EL gk k hkg];exact C6
   have hfD:m9 (lU EL gk) k 0=none:=by
    have:=o7 (lU EL gk) k 0
    rw[hbD]at this
    simpa using this
   obtain⟨o,Df,pG⟩:=tC (show ei w4.drew eb (lU EL gk) from AP) k hfD w1.heap.size
   unfold lG aw at Df
   unfold lG at Kf
   have RS:lL EL (cF C M k).1=lU EL gk:=by rw[hgn];rfl
   have C9:aa (·=eb) w3 (b8 w4.drew eb o):=Sy.trans ((aa.refl (·=eb) w4).drew.trans (fB _ _ _))
   have eO:=pM (W:=b8 w4.drew eb o) (r:=r) h hk hR iw hO rj we C6 (by have:=h.low.1;omega) (fun j hj=>⟨(hS j hj).1,(hS j hj).2.1⟩) dY kv C9 (by rw[RS];exact pG)
   have ES:aa (Mw b0 w) w (b8 w4.drew eb o):=OB (b8 w4.drew eb o) w3 hO.kept C9
   have s2:w4.cell? ⟨mb,2,none⟩=some (.int .i32 1):=by rw[ib];exact(aM mD).trans m2
   have n2:(b8 w4.drew eb o).cell? ⟨mb,2,none⟩=some (.int .i32 1):=(aM mD).trans s2
   have n4:(b8 w4.drew eb o).cell? ⟨mb,4,none⟩=some (.map (some eb)):=(aM mD).trans p4
   have n5:(b8 w4.drew eb o).cell? ⟨w.heap.size,0,none⟩=some (.int .i64 (k.inp:Int)):=(aM lf).trans p5
   have n6:(b8 w4.drew eb o).cell? ⟨w.heap.size,1,none⟩=some (.int .i64 (k.rule:Int)):=(aM lf).trans p6
   have n7:(b8 w4.drew eb o).cell? ⟨w.heap.size,2,none⟩=some (.int .i64 (k.place:Int)):=(aM lf).trans p7
   have n3:(b8 w4.drew eb o).frozen? ⟨mb,2,none⟩=false:=by
    have hx:=(C9.block mb (ag (show ai w3 mb=_ from dY)) mD).trans dY
    simp[World.frozen?,hx]
   clear ib
   simp only[mS,Option.map_some]
   go_wp2_with fail
   go_region_held3 (fun w'=>w'.cell? ⟨mb,4,none⟩=some (.map (some eb))/\w'.cell? ⟨gb,0,none⟩=some (.int .i64 (gk.inp:Int))/\w'.cell? ⟨gb,1,none⟩=some (.int .i64 (gk.rule:Int))/\w'.cell? ⟨gb,2,none⟩=some (.int .i64 (gk.place:Int))) (go_keep) (fail)
   go_wp2_with fail
   go_region_held3 (fun w'=>w'.cell? ⟨mb,4,none⟩=some (.map (some eb))/\w'.cell? ⟨w.heap.size,0,none⟩=some (.int .i64 (k.inp:Int))/\w'.cell? ⟨w.heap.size,1,none⟩=some (.int .i64 (k.rule:Int))/\w'.cell? ⟨w.heap.size,2,none⟩=some (.int .i64 (k.place:Int))) (go_keep) (fail)
   go_wp2
   refine leaves_cons (f:=109) (args:=#[.pointer (some ⟨mb,2,none⟩)]) (by simp) (by simp[go_sem]) ?_
   refine(unlock_deferred Tryz.muLib ⟨mb,2,none⟩ .returning (b8 w4.drew eb o) n2 n3).mono ?_
   rintro e u' w'' ⟨rfl,rfl,rfl⟩
   rw[HM.out]
   exact⟨_,results_none rfl _ _ _,rfl,⟨eb,ob,_,eO⟩,aa.setCell (S:=Mw b0 w) ES (p:=⟨mb,2,none⟩) (fun _=>h.mw (.inl rfl)) _⟩
end Go.Proofs.YtagklnaaoclmhaaGreatDoor
