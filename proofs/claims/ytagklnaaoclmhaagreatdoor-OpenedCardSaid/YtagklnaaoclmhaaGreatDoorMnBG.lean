import Derived.Test.YtagklnaaoclmhaaGreatDoorMnAT
set_option linter.unusedSimpArgs false
set_option linter.unusedVariables false
set_option maxRecDepth 100000
set_option maxHeartbeats 16000000
namespace Go.Proofs.YtagklnaaoclmhaaGreatDoor
open Go.RowKit
structure Mi (K:Wc)(P:Ms->Prop):Prop where
 find:∀M k,P M->P (fh K.mc M k).2
 keep:∀M rule a r,rule<K.rs.length->P M->P (eD K.mc M ⟨K.inp,rule,a⟩ r)
section
variable {K:Wc} {P:Ms->Prop}
theorem zx {step:Nat->Wt->Option (Int × Wt)}:∀(l:List Nat),(∀j∈l,∀s t s',P s.mem->step j s=some (t,s')->P s'.mem)->∀s t s',P s.mem->nJ step l s=some (t,s')->P s'.mem
 | [],_,s,t,s',h,he=>by
  simp only[nJ,Option.some.injEq,Prod.mk.injEq]at he
  rw[<-he.2];exact h
 | j :: l,hs,s,t,s',h,he=>by
  unfold nJ at he
  cases hx:step j s with
  | none=>rw[hx]at he;cases he
  | some x=>
   obtain⟨t1,s1⟩:=x
   rw[hx]at he
   simp only at he
   have h1:=hs j (List.mem_cons_self ..) s t1 s1 h hx
   split at he
   ·exact zx l (fun j' hj=>hs j' (List.mem_cons_of_mem _ hj)) s1 t s' h1 he
   ·simp only[Option.some.injEq,Prod.mk.injEq]at he
    rw[<-he.2];exact h1
theorem FS {step:Nat->Nat->Wt->Option (Int × Wt)}:∀(l:List Nat),(∀j∈l,∀a s t s',P s.mem->step j a s=some (t,s')->P s'.mem)->∀a s t s',P s.mem->tE step l a s=some (t,s')->P s'.mem
 | [],_,a,s,t,s',h,he=>by
  simp only[tE,Option.some.injEq,Prod.mk.injEq]at he
  rw[<-he.2];exact h
 | j :: l,hs,a,s,t,s',h,he=>by
  unfold tE at he
  cases hx:step j a s with
  | none=>rw[hx]at he;cases he
  | some x=>
   obtain⟨t1,s1⟩:=x
   rw[hx]at he
   simp only at he
   have h1:=hs j (List.mem_cons_self ..) a s t1 s1 h hx
   split at he
   ·simp only[Option.some.injEq,Prod.mk.injEq]at he
    rw[<-he.2];exact h1
   ·exact FS l (fun j' hj=>hs j' (List.mem_cons_of_mem _ hj)) _ s1 t s' h1 he
theorem zC {step:Nat->Wt->Option (Int × Wt)}(hs:∀a s t s',P s.mem->step a s=some (t,s')->P s'.mem):∀f a s t s',P s.mem->vG step f a s=some (t,s')->P s'.mem
 | 0,_,_,_,_,_,he=>by cases he
 | f+1,a,s,t,s',h,he=>by
  unfold vG at he
  cases hx:step a s with
  | none=>rw[hx]at he;cases he
  | some x=>
   obtain⟨t1,s1⟩:=x
   rw[hx]at he
   simp only at he
   have h1:=hs a s t1 s1 h hx
   split at he
   ·simp only[Option.some.injEq,Prod.mk.injEq]at he
    rw[<-he.2];exact h1
   ·exact zC hs f _ s1 t s' h1 he
theorem BX (hM:Mi K P){step:Nat->Wt->Option (Int × Wt)}{rule a:Nat}(hr:rule<K.rs.length)(hs:∀j∈(ap K.ns (cL K.rs rule)).subs,∀s t s',P s.mem->step j s=some (t,s')->P s'.mem){s:Wt}{t:Int}{s':Wt}(h:P s.mem)(he:lQ K step rule a s=some (t,s')):P s'.mem:=by
 have hf:=hM.find s.mem ⟨K.inp,rule,a⟩ h
 unfold lQ at he
 cases hx:fh K.mc s.mem ⟨K.inp,rule,a⟩ with
 | mk x M=>
  rw[hx]at he hf
  cases x with
  | some r=>
   simp only[Option.some.injEq,Prod.mk.injEq]at he
   rw[<-he.2];exact hf
  | none=>
   simp only at he
   cases hc:nJ step (ap K.ns (cL K.rs rule)).subs (j8 s M) with
   | none=>rw[hc]at he;cases he
   | some y=>
    obtain⟨t1,s1⟩:=y
    rw[hc]at he
    simp only[Option.some.injEq,Prod.mk.injEq]at he
    have h1:=zx _ hs _ _ _ (show P (j8 s M).mem from hf) hc
    rw[<-he.2]
    show P (if K.most<s1.cnt then s1.mem else eD K.mc s1.mem ⟨K.inp,rule,a⟩ (jJ rule a s t1 s1))
    split
    ·exact h1
    ·exact hM.keep _ _ _ _ hr h1
theorem My (hM:Mi K P)(K8:Wf K.ns)(rz:∀i,i<K.ns.length->(ap K.ns i).kind=3->dI K.rs (ap K.ns i)<K.rs.length)(uw:∀r,r<K.rs.length->cL K.rs r<K.ns.length)(h0:0<K.ns.length):∀f i a s t s',i<K.ns.length->P s.mem->wM K f i a s=some (t,s')->P s'.mem
 | 0,_,_,_,_,_,_,_,he=>by cases he
 | f+1,i,a,s,t,s',hi,h,he=>by
  have ih:=My hM K8 rz uw h0 f
  have dL:∀i,i<K.ns.length->∀j∈(ap K.ns i).subs,j<K.ns.length:=fun i hi j hj=>by
   have:=(be K8 hi).low j hj;omega
  have hd:(ap K.ns i).subs.getD 0 0<K.ns.length:=by
   cases hl:(ap K.ns i).subs with
   | nil=>exact h0
   | cons x l=>exact dL i hi x (by rw[hl];exact List.mem_cons_self ..)
  rw[wM]at he
  split at he
  ·simp only[Option.some.injEq,Prod.mk.injEq]at he
   rw[<-he.2];exact h
  ·cases hk:Cu K (wM K f) f i a s with
   | none=>rw[hk]at he;cases he
   | some x=>
    obtain⟨t1,s1⟩:=x
    rw[hk]at he
    simp only[Option.map_some,Option.some.injEq]at he
    have fV:P s1.mem:=by
     unfold Cu at hk
     split at hk
     ·simp only[Option.some.injEq]at hk
      unfold Ns at hk
      cases jc:mX K.b K.len (ap K.ns i) a with
      | some u=>rw[jc]at hk;simp only[Prod.mk.injEq]at hk;rw[<-hk.2];exact h
      | none=>rw[jc]at hk;simp only[Prod.mk.injEq]at hk;rw[<-hk.2];exact h
     ·split at hk
      ·next h3=>
       have hr:=rz i hi h3
       exact BX hM hr (fun j hj s t s' hs hx=>ih j a s t s' (dL _ (uw _ hr) j hj) hs hx) h hk
      ·split at hk
       ·unfold Mu at hk
        split at hk
        ·simp only[Option.some.injEq,Prod.mk.injEq]at hk
         rw[<-hk.2];exact h
        ·split at hk
         ·cases hk
         ·next t2 s2 hc=>
          have h1:=zx _ (fun j hj s t s' hs hx=>ih j a s t s' (dL i hi j hj) hs hx) _ _ _ h hc
          simp only[Option.some.injEq,Prod.mk.injEq]at hk
          rw[<-hk.2]
          split <;> exact h1
       ·split at hk
        ·exact FS _ (fun j hj b s t s' hs hx=>ih j b s t s' (dL i hi j hj) hs hx) _ _ _ _ h hk
        ·split at hk
         ·cases hx:wM K f ((ap K.ns i).subs.getD 0 0) a s with
          | none=>rw[hx]at hk;cases hk
          | some y=>
           obtain⟨t2,s2⟩:=y
           rw[hx]at hk
           simp only[Option.map_some,Option.some.injEq]at hk
           have h1:=ih _ _ _ _ _ hd h hx
           split at hk <;> (simp only[Prod.mk.injEq]at hk;rw[<-hk.2];exact h1)
         ·split at hk
          ·exact zC (fun b s t s' hs hx=>ih _ b s t s' hd hs hx) _ _ _ _ _ h hk
          ·split at hk
           ·cases hx:wM K f ((ap K.ns i).subs.getD 0 0) a s with
            | none=>rw[hx]at hk;cases hk
            | some y=>
             obtain⟨t2,s2⟩:=y
             rw[hx]at hk
             simp only at hk
             have h1:=ih _ _ _ _ _ hd h hx
             split at hk
             ·simp only[Option.some.injEq,Prod.mk.injEq]at hk
              rw[<-hk.2];exact h1
             ·exact zC (fun b s t s' hs hx=>ih _ b s t s' hd hs hx) _ _ _ _ _ h1 hk
           ·cases hx:wM K f ((ap K.ns i).subs.getD 0 0) a s with
            | none=>rw[hx]at hk;cases hk
            | some y=>
             obtain⟨t2,s2⟩:=y
             rw[hx]at hk
             simp only[Option.map_some,Option.some.injEq,Q1,Prod.mk.injEq]at hk
             have h1:=ih _ _ _ _ _ hd h hx
             rw[<-hk.2];exact h1
    unfold rT at he
    split at he
    ·simp only[Prod.mk.injEq]at he;rw[<-he.2];exact fV
    ·simp only[Prod.mk.injEq]at he;rw[<-he.2];exact fV
end
theorem Fd {K:Wc}(h:∀r,r<K.rs.length->K.mc.mask / 2^r%2=0):Mi K (fun M=>M.ent=[]/\M.hits=0):=by
 refine⟨fun M k hp=>?_,fun M rule a r hr hp=>?_⟩
 ·unfold fh
  rw[hp.1]
  exact hp
 ·unfold eD
  rw[if_pos (h rule hr)]
  exact hp
theorem D3 {K:Wc}{Br:Nat->Prop}(hK:Kc K Br){n bud g:Nat}{o:Ot}{t:Int}{s':Wt}{r:Rs}(hr:0<K.rs.length)(hm:∀r,r<K.rs.length->K.mc.mask / 2^r%2=0)(h:tM K n bud o g t s' r):s'.mem.ent.length=0/\s'.mem.hits=0/\s'.dn=s'.cnt:=by
 have uw:∀r,r<K.rs.length->cL K.rs r<K.ns.length:=fun r hr=>dy hK.wf hr
 have h0:0<K.ns.length:=by have:=uw 0 hr;omega
 have dL:∀j∈(ap K.ns (cL K.rs 0)).subs,j<K.ns.length:=fun j hj=>by
  have:=(be hK.wf.wf (uw 0 hr)).low j hj
  have:=uw 0 hr
  omega
 have h1:=BX (Fd hm) hr (fun j hj s t s' hs hx=>My (Fd hm) hK.wf.wf (fun i hi hk=>hK.ru i hi hk) uw h0 g j 0 s t s' (dL j hj) hs hx) (s:=eg n (oX bud)) ⟨rfl,rfl⟩ h.run
 exact⟨by rw[h1.1];rfl,h1.2,h.hit.1 h1.2⟩
structure Wh (K:Wc):Prop where
 pol:K.mc.pol=2
 bit:∀r,r<K.rs.length->K.mc.mask / 2^r%2≠0
 bud:K.rs.length*(K.len+1)<=K.mc.bud
structure Qm (K:Wc)(M:Ms):Prop where
 nd:(M.ent.map (·.1)).Nodup
 rg:∀e∈M.ent,e.1.inp=K.inp/\e.1.rule<K.rs.length/\e.1.place<=K.len
 ord:M.ord.length=M.ent.length
 inn:∀e∈M.ent,e.1∈M.ord
theorem E9 {K:Wc}{l:List Ky}(hn:l.Nodup)(hr:∀k∈l,k.inp=K.inp/\k.rule<K.rs.length/\k.place<=K.len):l.length<=K.rs.length*(K.len+1):=by
 have h1:(l.map (fun k=>k.rule*(K.len+1)+k.place)).Nodup:=by
  refine List.pairwise_map.2 (List.Pairwise.imp_of_mem ?_ hn)
  intro a b ha hb gu e
  obtain⟨a1,a2,a3⟩:=hr a ha
  obtain⟨b1,b2,b3⟩:=hr b hb
  apply gu
  have hx:a.rule=b.rule:=by
   have e1:(a.rule*(K.len+1)+a.place) / (K.len+1)=a.rule:=by
    rw[Nat.mul_comm,Nat.mul_add_div (by omega),Nat.div_eq_of_lt (by omega),Nat.add_zero]
   have e2:(b.rule*(K.len+1)+b.place) / (K.len+1)=b.rule:=by
    rw[Nat.mul_comm,Nat.mul_add_div (by omega),Nat.div_eq_of_lt (by omega),Nat.add_zero]
   rw[<-e1,e,e2]
  have hy:a.place=b.place:=by rw[hx]at e;omega
  cases a;cases b;simp_all
 have h2:=uR (K.rs.length*(K.len+1)) _ h1 (fun x hx=>by
  obtain⟨k,hk,rfl⟩:=List.mem_map.1 hx
  obtain⟨_,k2,k3⟩:=hr k hk
  have h3:(k.rule+1)*(K.len+1)<=K.rs.length*(K.len+1):=Nat.mul_le_mul_right _ k2
  have h4:(k.rule+1)*(K.len+1)=k.rule*(K.len+1)+(K.len+1):=by rw[Nat.add_mul,Nat.one_mul]
  omega)
 rw[List.length_map]at h2
 exact h2
theorem Qm.le {K:Wc}{M:Ms}(h:Qm K M):M.ent.length<=K.rs.length*(K.len+1):=by
 have:=E9 (K:=K) h.nd (fun k hk=>by
  obtain⟨e,he,rfl⟩:=List.mem_map.1 hk
  exact h.rg e he)
 rw[List.length_map]at this
 exact this
theorem Gd {l:List (Ky × Rs)}{k:Ky}(h:∀e∈l,e.1≠k):oC l k=none:=by
 unfold oC
 rw[List.find?_eq_none.2 (fun e he=>by simpa using h e he)]
 rfl
theorem Qm.find {K:Wc}(hw:Wh K){M:Ms}(h:Qm K M)(k:Ky):Qm K (fh K.mc M k).2:=by
 have he:=(jd K.mc M k).1
 unfold fh at he ⊢
 cases hg:oC M.ent k with
 | none=>exact h
 | some r=>
  have hk:k∈M.ord:=h.inn (k,r) (Al hg)
  simp only[ie,hw.pol,if_true]
  refine⟨h.nd,h.rg,?_,fun e he=>?_⟩
  ·have h1:=h.ord
   have h2:(M.ord.erase k).length=M.ord.length-1:=List.length_erase_of_mem hk
   have h3:0<M.ord.length:=List.length_pos_of_mem hk
   show (k :: M.ord.erase k).length=M.ent.length
   rw[List.length_cons];omega
  ·have h1:e.1∈M.ord:=h.inn e he
   show e.1∈k :: M.ord.erase k
   by_cases hek:e.1=k
   ·rw[hek];exact List.mem_cons_self ..
   ·exact List.mem_cons_of_mem _ ((List.mem_erase_of_ne hek).2 h1)
theorem Qm.keep {K:Wc}(hw:Wh K){M:Ms}(h:Qm K M){k:Ky}(hk:k.inp=K.inp/\k.rule<K.rs.length/\k.place<=K.len)(hn:∀e∈M.ent,e.1≠k)(r:Rs):Qm K (eD K.mc M k r)/\(eD K.mc M k r).ent=M.ent++[(k,r)]:=by
 have ts:((M.ent++[(k,r)]).map (·.1)).Nodup:=by
  rw[List.map_append]
  refine List.nodup_append.2 ⟨h.nd,by simp,fun a ha b hb=>?_⟩
  obtain⟨e,he,rfl⟩:=List.mem_map.1 ha
  simp at hb
  rw[hb]
  exact hn e he
 have Qv:∀e∈M.ent++[(k,r)],e.1.inp=K.inp/\e.1.rule<K.rs.length/\e.1.place<=K.len:=fun e he=>by
  rcases List.mem_append.1 he with h1 | h1
  ·exact h.rg e h1
  ·simp at h1;rw[h1];exact hk
 have hl:=E9 (K:=K) ts (fun x hx=>by
  obtain⟨e,he,rfl⟩:=List.mem_map.1 hx
  exact Qv e he)
 rw[List.length_map,List.length_append]at hl
 have bj:M.ord.length<K.mc.bud:=by have:=hw.bud;have:=h.ord;simp at hl;omega
 have xp:eD K.mc M k r={ M with ord:=k :: M.ord,ent:=M.ent++[(k,r)] }:=by
  unfold eD
  rw[if_neg (hw.bit _ hk.2.1),Gd hn]
  simp[cF,hw.pol,bj,eX]
 rw[xp]
 refine⟨⟨ts,Qv,?_,fun e he=>?_⟩,rfl⟩
 ·show (k :: M.ord).length=(M.ent++[(k,r)]).length
  simp[h.ord]
 ·show e.1∈k :: M.ord
  rcases List.mem_append.1 he with h1 | h1
  ·exact List.mem_cons_of_mem _ (h.inn e h1)
  ·simp at h1;rw[h1];exact List.mem_cons_self ..
def Lt (K:Wc)(f:Nat)(k:Ky):Prop:=∃f' o,f'<f/\bR K.b K.len K.rs K.ns f' (cL K.rs k.rule) k.place 0=some o
structure Gw (K:Wc)(f:Nat)(s s':Wt):Prop where
 q:Qm K s'.mem
 dn:s'.dn+s.mem.ent.length<=s.dn+s'.mem.ent.length
 new:∀e∈s'.mem.ent,(∃e0∈s.mem.ent,e0.1=e.1)\/Lt K f e.1
theorem Gw.refl {K:Wc}{f:Nat}{s:Wt}(h:Qm K s.mem):Gw K f s s:=⟨h,Nat.le_refl _,fun e he=>.inl ⟨e,he,rfl⟩⟩
theorem Gw.trans {K:Wc}{f:Nat}{s s1 s2:Wt}(h:Gw K f s s1)(k:Gw K f s1 s2):Gw K f s s2:=by
 refine⟨k.q,by have:=h.dn;have:=k.dn;omega,fun e he=>?_⟩
 rcases k.new e he with⟨e1,h1,h2⟩ | h1
 ·rcases h.new e1 h1 with⟨e0,h3,h4⟩ | h3
  ·exact .inl ⟨e0,h3,h4.trans h2⟩
  ·rw[h2]at h3;exact .inr h3
 ·exact .inr h1
theorem Gw.mono {K:Wc}{f g:Nat}{s s':Wt}(h:Gw K f s s')(hg:f<=g):Gw K g s s':=⟨h.q,h.dn,fun e he=>by
 rcases h.new e he with h1 | ⟨f',o,h1,h2⟩
 ·exact .inl h1
 ·exact .inr ⟨f',o,by omega,h2⟩⟩
theorem Gw.same {K:Wc}{f:Nat}{s s1 s2:Wt}(h:Gw K f s s1)(hm:s2.mem=s1.mem)(hd:s2.dn=s1.dn):Gw K f s s2:=⟨by rw[hm];exact h.q,by rw[hm,hd];exact h.dn,by rw[hm];exact h.new⟩
def wN (K:Wc)(Br:Nat->Prop)(f:Nat):Prop:=∀i a dp o,i<K.ns.length->((ap K.ns i).kind=4->Br i)->a<=K.len->bR K.b K.len K.rs K.ns f i a dp=some o->∀g,f<g->∀s t s',qF K Br s->Qm K s.mem->wM K g i a s=some (t,s')->s'.cnt<=K.most->Gw K f s s'
section
variable {K:Wc} {Br:Nat->Prop}
theorem Mx (hK:Kc K Br){f:Nat}(hW:wN K Br f){a dp:Nat}(ha:a<=K.len):∀l o,(∀j∈l,j<K.ns.length/\((ap K.ns j).kind=4->Br j))->iP (fun j=>bR K.b K.len K.rs K.ns f j a dp) l=some o->∀g,f<g->∀s t s',qF K Br s->Qm K s.mem->nJ (fun j s=>wM K g j a s) l s=some (t,s')->s'.cnt<=K.most->Gw K f s s'
 | [],o,_,h,g,hg,s,t,s',hI,hQ,he,hc=>by
  simp only[nJ,Option.some.injEq,Prod.mk.injEq]at he
  rw[<-he.2];exact Gw.refl hQ
 | j :: l,o,hl,h,g,hg,s,t,s',hI,hQ,he,hc=>by
  rw[iP]at h
  cases hj:bR K.b K.len K.rs K.ns f j a dp with
  | none=>rw[hj]at h;cases h
  | some p=>
   rw[hj]at h
   simp only at h
   obtain⟨t1,s1,h1,h2⟩:=jA hK f j a dp p (hl j (List.mem_cons_self ..)).1 (hl j (List.mem_cons_self ..)).2 ha hj g hg s hI
   rw[nJ,h1]at he
   simp only at he
   have yF:0<g:=by omega
   have dZ:=hW j a dp p (hl j (List.mem_cons_self ..)).1 (hl j (List.mem_cons_self ..)).2 ha hj g hg s t1 s1 hI hQ h1
   cases h2.sm with
   | sp inv cnt most=>
    exfalso
    split at he
    ·rw[nK yF cnt l]at he
     simp only[Option.some.injEq,Prod.mk.injEq]at he
     rw[<-he.2]at hc;omega
    ·simp only[Option.some.injEq,Prod.mk.injEq]at he
     rw[<-he.2]at hc;omega
   | ok inv cnt most to far mt=>
    have hw:=dZ most
    cases hp:p.to with
    | some u=>
     rw[if_neg (by rw[to,gq,hp];simp)]at he
     simp only[Option.some.injEq,Prod.mk.injEq]at he
     rw[<-he.2];exact hw
    | none=>
     rw[hp]at h
     rw[if_neg (by simp)]at h
     rw[if_pos (by rw[to,gq,hp])]at he
     cases fS:iP (fun j=>bR K.b K.len K.rs K.ns f j a dp) l with
     | none=>rw[fS]at h;cases h
     | some q=>exact hw.trans (Mx hK hW ha l q (fun j hj=>hl j (List.mem_cons_of_mem _ hj)) fS g hg s1 t s' inv hw.q he hc)
theorem Q3 (hK:Kc K Br){f:Nat}(hW:wN K Br f){dp:Nat}:∀l a o,a<=K.len->(∀j∈l,j<K.ns.length/\((ap K.ns j).kind=4->Br j))->iE (fun j a=>bR K.b K.len K.rs K.ns f j a dp) l a=some o->∀g,f<g->∀s t s',qF K Br s->Qm K s.mem->tE (fun j a s=>wM K g j a s) l a s=some (t,s')->s'.cnt<=K.most->Gw K f s s'
 | [],a,o,_,_,h,g,hg,s,t,s',hI,hQ,he,hc=>by
  simp only[tE,Option.some.injEq,Prod.mk.injEq]at he
  rw[<-he.2];exact Gw.refl hQ
 | j :: l,a,o,ha,hl,h,g,hg,s,t,s',hI,hQ,he,hc=>by
  rw[iE]at h
  cases hj:bR K.b K.len K.rs K.ns f j a dp with
  | none=>rw[hj]at h;cases h
  | some p=>
   rw[hj]at h
   simp only at h
   obtain⟨t1,s1,h1,h2⟩:=jA hK f j a dp p (hl j (List.mem_cons_self ..)).1 (hl j (List.mem_cons_self ..)).2 ha hj g hg s hI
   rw[tE,h1]at he
   simp only at he
   have yF:0<g:=by omega
   have dZ:=hW j a dp p (hl j (List.mem_cons_self ..)).1 (hl j (List.mem_cons_self ..)).2 ha hj g hg s t1 s1 hI hQ h1
   cases h2.sm with
   | sp inv cnt most=>
    exfalso
    split at he
    ·simp only[Option.some.injEq,Prod.mk.injEq]at he
     rw[<-he.2]at hc;omega
    ·obtain⟨t3,h3⟩:=xV yF cnt l t1.toNat
     rw[h3]at he
     simp only[Option.some.injEq,Prod.mk.injEq]at he
     rw[<-he.2]at hc;omega
   | ok inv cnt most to far mt=>
    have hw:=dZ most
    cases hp:p.to with
    | none=>
     rw[if_pos (by rw[to,gq,hp])]at he
     simp only[Option.some.injEq,Prod.mk.injEq]at he
     rw[<-he.2];exact hw
    | some u=>
     rw[hp]at h
     simp only at h
     rw[if_neg (by rw[to,gq,hp];simp)]at he
     have hu:t1.toNat=u:=by rw[to,hp];rfl
     rw[hu]at he
     have GN:=(hK.at_ f j a dp p u (hl j (List.mem_cons_self ..)).1 ha hj hp).2
     cases fS:iE (fun j a=>bR K.b K.len K.rs K.ns f j a dp) l u with
     | none=>rw[fS]at h;cases h
     | some q=>exact hw.trans (Q3 hK hW l u q GN (fun j hj=>hl j (List.mem_cons_of_mem _ hj)) fS g hg s1 t s' inv hw.q he hc)
theorem MD (hK:Kc K Br){f:Nat}(hW:wN K Br f){dp i:Nat}(hi:i<K.ns.length)(hb:(ap K.ns i).kind=4->Br i):∀q a o,a<=K.len->gy (fun a=>bR K.b K.len K.rs K.ns f i a dp) q a=some o->∀g g',f<g->q<g'->∀s t s',qF K Br s->Qm K s.mem->vG (fun a s=>wM K g i a s) g' a s=some (t,s')->s'.cnt<=K.most->Gw K f s s'
 | 0,a,o,ha,h,g,g',hg,nP,s,t,s',hI,hQ,he,hc=>by cases h
 | q+1,a,o,ha,h,g,g',hg,nP,s,t,s',hI,hQ,he,hc=>by
  rw[gy]at h
  obtain⟨g1,rfl⟩:∃g1,g'=g1+1:=⟨g' - 1,by omega⟩
  cases hj:bR K.b K.len K.rs K.ns f i a dp with
  | none=>rw[hj]at h;cases h
  | some p=>
   rw[hj]at h
   simp only at h
   obtain⟨t1,s1,h1,h2⟩:=jA hK f i a dp p hi hb ha hj g hg s hI
   rw[vG,h1]at he
   simp only at he
   have yF:0<g:=by omega
   have dZ:=hW i a dp p hi hb ha hj g hg s t1 s1 hI hQ h1
   cases h2.sm with
   | sp inv cnt most=>
    exfalso
    split at he
    ·simp only[Option.some.injEq,Prod.mk.injEq]at he
     rw[<-he.2]at hc;omega
    ·cases g1 with
     | zero=>cases he
     | succ g2=>
      rw[nL yF cnt]at he
      simp only[Option.some.injEq,Prod.mk.injEq]at he
      rw[<-he.2]at hc;omega
   | ok inv cnt most to far mt=>
    have hw:=dZ most
    cases hp:p.to with
    | none=>
     rw[if_pos (by rw[to,gq,hp])]at he
     simp only[Option.some.injEq,Prod.mk.injEq]at he
     rw[<-he.2];exact hw
    | some u=>
     rw[hp]at h
     simp only at h
     rw[if_neg (by rw[to,gq,hp];simp)]at he
     have hu:t1.toNat=u:=by rw[to,hp];rfl
     rw[hu]at he
     have GN:=(hK.at_ f i a dp p u hi ha hj hp).2
     cases fS:gy (fun a=>bR K.b K.len K.rs K.ns f i a dp) q u with
     | none=>rw[fS]at h;cases h
     | some q2=>exact hw.trans (MD hK hW hi hb q u q2 GN fS g g1 hg (by omega) s1 t s' inv hw.q he hc)
theorem least {p:Nat->Prop}:∀f,p f->∃f0,f0<=f/\p f0/\∀g,g<f0->¬p g
 | 0,h=>⟨0,Nat.le_refl _,h,fun g hg=>absurd hg (by omega)⟩
 | f+1,h=>by
  by_cases hx:∃g,g<=f/\p g
  ·obtain⟨g,hg,hp⟩:=hx
   have:∀m g,g<=m->p g->∃f0,f0<=g/\p f0/\∀g',g'<f0->¬p g':=by
    intro m
    induction m with
    | zero=>intro g hg hp;exact⟨g,Nat.le_refl _,hp,fun g' h'=>absurd h' (by omega)⟩
    | succ m ih=>
     intro g hg hp
     by_cases hy:∃g',g'<g/\p g'
     ·obtain⟨g',h1,h2⟩:=hy
      obtain⟨f0,h3,h4,h5⟩:=ih g' (by omega) h2
      exact⟨f0,by omega,h4,h5⟩
     ·exact⟨g,Nat.le_refl _,hp,fun g' h' zM=>hy ⟨g',h',zM⟩⟩
   obtain⟨f0,h1,h2,h3⟩:=this f g hg hp
   exact⟨f0,by omega,h2,h3⟩
  ·exact⟨f+1,Nat.le_refl _,h,fun g hg hp=>hx ⟨g,by omega,hp⟩⟩
theorem MA (hK:Kc K Br)(hw:Wh K){f:Nat}(hW:∀f',f'<f->wN K Br f'){rule a dp:Nat}(hr:rule<K.rs.length)(ha:a<=K.len){o:Ot}(h:bR K.b K.len K.rs K.ns f (cL K.rs rule) a dp=some o):∀g,f<=g->∀s t s',qF K Br s->Qm K s.mem->s.cnt<=K.most->lQ K (fun j s=>wM K g j a s) rule a s=some (t,s')->s'.cnt<=K.most->Gw K (f+1) s s':=by
 intro g hg s t s' hI hQ hm he hc
 obtain⟨o0,h0,_⟩:=mO h
 obtain⟨f0,hf0,yM,qa7⟩:=least (p:=fun f=>∃o,bR K.b K.len K.rs K.ns f (cL K.rs rule) a 0=some o) f ⟨o0,h0⟩
 obtain⟨p,hp⟩:=yM
 have mE:=ll hp
 obtain⟨f1,rfl⟩:∃f1,f0=f1+1:=⟨f0-1,by omega⟩
 have Kj:=jd K.mc s.mem ⟨K.inp,rule,a⟩
 have hfq:=hQ.find hw ⟨K.inp,rule,a⟩
 unfold lQ at he
 cases hx:fh K.mc s.mem ⟨K.inp,rule,a⟩ with
 | mk x M=>
  rw[hx]at he Kj hfq
  cases x with
  | some r=>
   simp only[Option.some.injEq,Prod.mk.injEq]at he
   rw[<-he.2]
   refine⟨hfq,?_,fun e he'=>.inl ⟨e,?_,rfl⟩⟩
   ·show s.dn+s.mem.ent.length<=s.dn+M.ent.length
    rw[Kj.1];exact Nat.le_refl _
   ·have Qi:e∈M.ent:=he'
    rw[Kj.1]at Qi;exact Qi
  | none=>
   simp only at he
   have hM:M=s.mem:=Kj.2.2 rfl
   subst hM
   have Dd:∀e∈s.mem.ent,e.1≠⟨K.inp,rule,a⟩:=fun e he' hk=>by
    unfold fh at hx
    cases hg:oC s.mem.ent ⟨K.inp,rule,a⟩ with
    | none=>
     unfold oC at hg
     rw[Option.map_eq_none_iff,List.find?_eq_none]at hg
     have:=hg e he'
     simp[hk]at this
    | some r=>rw[hg]at hx;simp at hx
   cases fS:nJ (fun j s=>wM K g j a s) (ap K.ns (cL K.rs rule)).subs (j8 s s.mem) with
   | none=>rw[fS]at he;cases he
   | some y=>
    obtain⟨t1,s1⟩:=y
    rw[fS]at he
    simp only[Option.some.injEq,Prod.mk.injEq]at he
    have kO:s1.cnt<=K.most:=by rw[<-he.2]at hc;exact hc
    have hi:=dy hK.wf hr
    have lc:=hK.ch rule hr
    have qaG:∃o1,iP (fun j=>bR K.b K.len K.rs K.ns f1 j a 0) (ap K.ns (cL K.rs rule)).subs=some o1:=by
     rw[bR,if_neg (by omega),if_neg (by omega),if_pos lc]at hp
     cases hh:iP (fun j=>bR K.b K.len K.rs K.ns f1 j a 0) (ap K.ns (cL K.rs rule)).subs with
     | none=>rw[hh]at hp;simp at hp
     | some o1=>exact⟨o1,rfl⟩
    obtain⟨o1,Qq⟩:=qaG
    have iJ:=be hK.wf.wf hi
    have dL:∀j∈(ap K.ns (cL K.rs rule)).subs,j<K.ns.length/\((ap K.ns j).kind=4->Br j):=fun j hj=>⟨Nat.lt_trans (iJ.low j hj) hi,hK.sub _ hi j hj⟩
    have hb:=Mx hK (hW f1 (by omega)) ha _ o1 dL Qq g (by omega) (j8 s s.mem) t1 s1 hI.beg hQ fS kO
    have Nh:∀e∈s1.mem.ent,e.1≠⟨K.inp,rule,a⟩:=fun e he' hk=>by
     rcases hb.new e he' with⟨e0,h3,h4⟩ | ⟨f',o',h3,h4⟩
     ·exact Dd e0 h3 (h4.trans hk)
     ·rw[hk]at h4
      exact qa7 f' (by omega) ⟨o',h4⟩
    have xp:=hb.q.keep hw (k:=⟨K.inp,rule,a⟩) ⟨rfl,hr,ha⟩ Nh (jJ rule a s t1 s1)
    have eP:s'.mem=eD K.mc s1.mem ⟨K.inp,rule,a⟩ (jJ rule a s t1 s1):=by
     rw[<-he.2]
     show (if K.most<s1.cnt then s1.mem else _)=_
     rw[if_neg (by omega)]
    have Xe:s'.dn=s1.dn:=by rw[<-he.2];rfl
    have tf:s1.dn+s.mem.ent.length<=(s.dn+1)+s1.mem.ent.length:=hb.dn
    refine⟨by rw[eP];exact xp.1,?_,fun e he'=>?_⟩
    ·rw[eP,xp.2,Xe,List.length_append]
     simp only[List.length_cons,List.length_nil]
     omega
    ·rw[eP,xp.2]at he'
     rcases List.mem_append.1 he' with h3 | h3
     ·rcases hb.new e h3 with h4 | ⟨f',o',h4,h5⟩
      ·exact .inl h4
      ·exact .inr ⟨f',o',by omega,h5⟩
     ·simp at h3
      rw[h3]
      exact .inr ⟨f1+1,p,by omega,hp⟩
theorem QQ (hK:Kc K Br)(hw:Wh K):∀n f,f<n->wN K Br f
 | 0,f,h=>absurd h (by omega)
 | n+1,f,xn=>by
  have IH:∀f',f'<f->wN K Br f':=fun f' h'=>QQ hK hw n f' (by omega)
  intro i a dp o hi hb ha h g hg s t s' hI hQ he hc
  obtain⟨f,rfl⟩:∃f1,f=f1+1:=⟨f-1,by have:=ll h;omega⟩
  obtain⟨g,rfl⟩:∃g1,g=g1+1:=⟨g-1,by omega⟩
  have hS:=IH f (by omega)
  have nP:f<g:=by omega
  rw[wM]at he
  by_cases hm:K.most<s.cnt
  ·rw[if_pos hm]at he
   simp only[Option.some.injEq,Prod.mk.injEq]at he
   rw[<-he.2];exact Gw.refl hQ
  rw[if_neg hm]at he
  have rt:s.cnt<=K.most:=by omega
  cases fN:Cu K (wM K g) g i a s with
  | none=>rw[fN]at he;cases he
  | some x=>
  obtain⟨t1,s1⟩:=x
  rw[fN]at he
  simp only[Option.map_some,Option.some.injEq]at he
  have EX:s'.mem=s1.mem/\s'.dn=s1.dn/\s'.cnt=s1.cnt:=by
   unfold rT at he
   split at he <;> (simp only[Prod.mk.injEq]at he;rw[<-he.2];exact⟨rfl,rfl,rfl⟩)
  have kO:s1.cnt<=K.most:=by rw[<-EX.2.2];exact hc
  suffices hx:Gw K (f+1) s s1 from hx.same EX.1 EX.2.1
  clear he EX hc
  have iJ:=be hK.wf.wf hi
  have dL:∀j∈(ap K.ns i).subs,j<K.ns.length/\((ap K.ns j).kind=4->Br j):=fun j hj=>⟨Nat.lt_trans (iJ.low j hj) hi,hK.sub _ hi j hj⟩
  unfold Cu at fN
  rw[bR]at h
  split at h
  ·next k=>
   rw[if_pos k]at fN
   simp only[Option.some.injEq]at fN
   unfold Ns at fN
   split at fN <;> (simp only[Prod.mk.injEq]at fN;rw[<-fN.2];exact(Gw.refl hQ).same rfl rfl)
  next k2=>
  rw[if_neg k2]at fN
  split at h
  ·next k=>
   rw[if_pos k]at fN
   cases fS:bR K.b K.len K.rs K.ns f (cL K.rs (dI K.rs (ap K.ns i))) a (dp+1) with
   | none=>rw[fS]at h;cases h
   | some p=>exact MA hK hw (fun f' h'=>IH f' (by omega)) (hK.ru i hi k) ha fS g (by omega) s t1 s1 hI hQ rt fN kO
  next k3=>
  rw[if_neg k3]at fN
  split at h
  ·next k=>
   rw[if_pos k]at fN
   unfold Mu at fN
   split at fN
   ·simp only[Option.some.injEq,Prod.mk.injEq]at fN
    rw[<-fN.2];exact Gw.refl hQ
   ·split at fN
    ·cases fN
    ·next t2 s2 fS=>
     simp only[Option.some.injEq,Prod.mk.injEq]at fN
     have KB:s1.mem=s2.mem/\s1.dn=s2.dn/\s1.cnt=s2.cnt:=by
      rw[<-fN.2]
      split <;> exact⟨rfl,rfl,rfl⟩
     have h5:=Mx hK hS ha _ o dL h g nP s t2 s2 hI hQ fS (by rw[<-KB.2.2];exact kO)
     exact(h5.mono (Nat.le_succ f)).same KB.1 KB.2.1
  next k4=>
  rw[if_neg k4]at fN
  split at h
  ·next k=>
   rw[if_pos k]at fN
   exact(Q3 hK hS _ a o ha dL h g nP s t1 s1 hI hQ fN kO).mono (Nat.le_succ f)
  next k5=>
  rw[if_neg k5]at fN
  have hx:=DZ hK.wf.wf hi (by omega)
  have jY:=dL ((ap K.ns i).subs.getD 0 0) (by rw[hx.1];simp)
  generalize (ap K.ns i).subs.getD 0 0=x at *
  split at h
  ·next k=>
   rw[if_pos k]at fN
   cases fS:bR K.b K.len K.rs K.ns f x a dp with
   | none=>rw[fS]at h;cases h
   | some p=>
    cases hq:wM K g x a s with
    | none=>rw[hq]at fN;cases fN
    | some y=>
     obtain⟨t2,s2⟩:=y
     rw[hq]at fN
     simp only[Option.map_some,Option.some.injEq]at fN
     have lY:s1=s2:=by split at fN <;> (simp only[Prod.mk.injEq]at fN;exact fN.2.symm)
     subst lY
     exact(hS x a dp p jY.1 jY.2 ha fS g nP s t2 s1 hI hQ hq kO).mono (Nat.le_succ f)
  next k6=>
  rw[if_neg k6]at fN
  split at h
  ·next k=>
   rw[if_pos k]at fN
   exact(MD hK hS jY.1 jY.2 f a o ha h g g nP nP s t1 s1 hI hQ fN kO).mono (Nat.le_succ f)
  next k7=>
  rw[if_neg k7]at fN
  split at h
  ·next k=>
   rw[if_pos k]at fN
   cases fS:bR K.b K.len K.rs K.ns f x a dp with
   | none=>rw[fS]at h;cases h
   | some p=>
    rw[fS]at h
    simp only at h
    obtain⟨t2,s2,hq,h2⟩:=jA hK f x a dp p jY.1 jY.2 ha fS g nP s hI
    rw[hq]at fN
    simp only at fN
    have gQ:=hS x a dp p jY.1 jY.2 ha fS g nP s t2 s2 hI hQ hq
    have yF:0<g:=by omega
    cases h2.sm with
    | sp inv cnt most=>
     exfalso
     split at fN
     ·simp only[Option.some.injEq,Prod.mk.injEq]at fN
      rw[<-fN.2]at kO;omega
     ·obtain⟨g2,rfl⟩:∃g2,g=g2+1:=⟨g-1,by omega⟩
      rw[nL yF cnt]at fN
      simp only[Option.some.injEq,Prod.mk.injEq]at fN
      rw[<-fN.2]at kO;omega
    | ok inv cnt most to far mt=>
     have gT:=gQ most
     cases hp:p.to with
     | none=>
      rw[if_pos (by rw[to,gq,hp])]at fN
      simp only[Option.some.injEq,Prod.mk.injEq]at fN
      rw[<-fN.2];exact gT.mono (Nat.le_succ f)
     | some u=>
      rw[hp]at h
      simp only at h
      rw[if_neg (by rw[to,gq,hp];simp)]at fN
      have hu:t2.toNat=u:=by rw[to,hp];rfl
      rw[hu]at fN
      have GN:=(hK.at_ f x a dp p u jY.1 ha fS hp).2
      cases X8:gy (fun a=>bR K.b K.len K.rs K.ns f x a dp) f u with
      | none=>rw[X8]at h;cases h
      | some q=>exact(gT.trans (MD hK hS jY.1 jY.2 f u q GN X8 g g nP nP s2 t1 s1 inv gT.q fN kO)).mono (Nat.le_succ f)
  next k8=>
  rw[if_neg k8]at fN
  cases fS:bR K.b K.len K.rs K.ns f x a dp with
  | none=>rw[fS]at h;cases h
  | some p=>
   cases hq:wM K g x a s with
   | none=>rw[hq]at fN;cases fN
   | some y=>
    obtain⟨t2,s2⟩:=y
    rw[hq]at fN
    simp only[Option.map_some,Option.some.injEq,Q1,Prod.mk.injEq]at fN
    have KB:s1.mem=s2.mem/\s1.dn=s2.dn/\s1.cnt=s2.cnt:=by rw[<-fN.2];exact⟨rfl,rfl,rfl⟩
    exact((hS x a dp p jY.1 jY.2 ha fS g nP s t2 s2 hI hQ hq (by rw[<-KB.2.2];exact kO)).mono (Nat.le_succ f)).same KB.1 KB.2.1
theorem MH (hK:Kc K Br)(hw:Wh K){n bud f:Nat}{o:Ot}{t:Int}{s':Wt}{r:Rs}(hr:0<K.rs.length)(h:bR K.b K.len K.rs K.ns f (cL K.rs 0) 0 1=some o)(hW:tM K n bud o (f+1) t s' r)(hc:o.rn+1<=K.most):s'.dn<=K.rs.length*(K.len+1):=by
 have hQ:Qm K (oX bud):=⟨by simp[oX],by simp[oX],rfl,by simp[oX]⟩
 have h1:=MA hK hw (f:=f) (fun f' _=>QQ hK hw (f'+1) f' (by omega)) hr (Nat.zero_le _) h (f+1) (by omega) (eg n (oX bud)) t s' (qF.start n bud) hQ (Nat.zero_le _) hW.run (by rw[hW.cnt hc];exact hc)
 have h2:=h1.q.le
 have h3:s'.dn+0<=0+s'.mem.ent.length:=h1.dn
 omega
end
section
variable {K:Wc} {D:Nat}
theorem zw {step:Nat->Wt->Option (Int × Wt)}:∀(l:List Nat),(∀j∈l,∀s t s',D<=s.dn->step j s=some (t,s')->D<=s'.dn)->∀s t s',D<=s.dn->nJ step l s=some (t,s')->D<=s'.dn
 | [],_,s,t,s',h,he=>by
  simp only[nJ,Option.some.injEq,Prod.mk.injEq]at he
  rw[<-he.2];exact h
 | j :: l,hs,s,t,s',h,he=>by
  unfold nJ at he
  cases hx:step j s with
  | none=>rw[hx]at he;cases he
  | some x=>
   obtain⟨t1,s1⟩:=x
   rw[hx]at he
   simp only at he
   have h1:=hs j (List.mem_cons_self ..) s t1 s1 h hx
   split at he
   ·exact zw l (fun j' hj=>hs j' (List.mem_cons_of_mem _ hj)) s1 t s' h1 he
   ·simp only[Option.some.injEq,Prod.mk.injEq]at he
    rw[<-he.2];exact h1
theorem MC {step:Nat->Nat->Wt->Option (Int × Wt)}:∀(l:List Nat),(∀j∈l,∀a s t s',D<=s.dn->step j a s=some (t,s')->D<=s'.dn)->∀a s t s',D<=s.dn->tE step l a s=some (t,s')->D<=s'.dn
 | [],_,a,s,t,s',h,he=>by
  simp only[tE,Option.some.injEq,Prod.mk.injEq]at he
  rw[<-he.2];exact h
 | j :: l,hs,a,s,t,s',h,he=>by
  unfold tE at he
  cases hx:step j a s with
  | none=>rw[hx]at he;cases he
  | some x=>
   obtain⟨t1,s1⟩:=x
   rw[hx]at he
   simp only at he
   have h1:=hs j (List.mem_cons_self ..) a s t1 s1 h hx
   split at he
   ·simp only[Option.some.injEq,Prod.mk.injEq]at he
    rw[<-he.2];exact h1
   ·exact MC l (fun j' hj=>hs j' (List.mem_cons_of_mem _ hj)) _ s1 t s' h1 he
theorem D2 {step:Nat->Wt->Option (Int × Wt)}(hs:∀a s t s',D<=s.dn->step a s=some (t,s')->D<=s'.dn):∀f a s t s',D<=s.dn->vG step f a s=some (t,s')->D<=s'.dn
 | 0,_,_,_,_,_,he=>by cases he
 | f+1,a,s,t,s',h,he=>by
  unfold vG at he
  cases hx:step a s with
  | none=>rw[hx]at he;cases he
  | some x=>
   obtain⟨t1,s1⟩:=x
   rw[hx]at he
   simp only at he
   have h1:=hs a s t1 s1 h hx
   split at he
   ·simp only[Option.some.injEq,Prod.mk.injEq]at he
    rw[<-he.2];exact h1
   ·exact D2 hs f _ s1 t s' h1 he
theorem PC {step:Nat->Wt->Option (Int × Wt)}{rule a:Nat}(hs:∀j∈(ap K.ns (cL K.rs rule)).subs,∀s t s',D<=s.dn->step j s=some (t,s')->D<=s'.dn){s:Wt}{t:Int}{s':Wt}(h:D<=s.dn)(he:lQ K step rule a s=some (t,s')):D<=s'.dn:=by
 unfold lQ at he
 cases hx:fh K.mc s.mem ⟨K.inp,rule,a⟩ with
 | mk x M=>
  rw[hx]at he
  cases x with
  | some r=>
   simp only[Option.some.injEq,Prod.mk.injEq]at he
   rw[<-he.2];exact h
  | none=>
   simp only at he
   cases hc:nJ step (ap K.ns (cL K.rs rule)).subs (j8 s M) with
   | none=>rw[hc]at he;cases he
   | some y=>
    obtain⟨t1,s1⟩:=y
    rw[hc]at he
    simp only[Option.some.injEq,Prod.mk.injEq]at he
    have h1:=zw _ hs _ _ _ (show D<=(j8 s M).dn from Nat.le_succ_of_le h) hc
    rw[<-he.2]
    exact h1
theorem Q2:∀f i a s t s',D<=s.dn->wM K f i a s=some (t,s')->D<=s'.dn
 | 0,_,_,_,_,_,_,he=>by cases he
 | f+1,i,a,s,t,s',h,he=>by
  have ih:=Q2 f
  rw[wM]at he
  split at he
  ·simp only[Option.some.injEq,Prod.mk.injEq]at he
   rw[<-he.2];exact h
  ·cases hk:Cu K (wM K f) f i a s with
   | none=>rw[hk]at he;cases he
   | some x=>
    obtain⟨t1,s1⟩:=x
    rw[hk]at he
    simp only[Option.map_some,Option.some.injEq]at he
    have fV:D<=s1.dn:=by
     unfold Cu at hk
     split at hk
     ·simp only[Option.some.injEq]at hk
      unfold Ns at hk
      cases jc:mX K.b K.len (ap K.ns i) a with
      | some u=>rw[jc]at hk;simp only[Prod.mk.injEq]at hk;rw[<-hk.2];exact h
      | none=>rw[jc]at hk;simp only[Prod.mk.injEq]at hk;rw[<-hk.2];exact h
     ·split at hk
      ·next h3=>
       skip
       exact PC (fun j hj s t s' hs hx=>ih j a s t s' hs hx) h hk
      ·split at hk
       ·unfold Mu at hk
        split at hk
        ·simp only[Option.some.injEq,Prod.mk.injEq]at hk
         rw[<-hk.2];exact h
        ·split at hk
         ·cases hk
         ·next t2 s2 hc=>
          have h1:=zw _ (fun j hj s t s' hs hx=>ih j a s t s' hs hx) _ _ _ h hc
          simp only[Option.some.injEq,Prod.mk.injEq]at hk
          rw[<-hk.2]
          split <;> exact h1
       ·split at hk
        ·exact MC _ (fun j hj b s t s' hs hx=>ih j b s t s' hs hx) _ _ _ _ h hk
        ·split at hk
         ·cases hx:wM K f ((ap K.ns i).subs.getD 0 0) a s with
          | none=>rw[hx]at hk;cases hk
          | some y=>
           obtain⟨t2,s2⟩:=y
           rw[hx]at hk
           simp only[Option.map_some,Option.some.injEq]at hk
           have h1:=ih _ _ _ _ _ h hx
           split at hk <;> (simp only[Prod.mk.injEq]at hk;rw[<-hk.2];exact h1)
         ·split at hk
          ·exact D2 (fun b s t s' hs hx=>ih _ b s t s' hs hx) _ _ _ _ _ h hk
          ·split at hk
           ·cases hx:wM K f ((ap K.ns i).subs.getD 0 0) a s with
            | none=>rw[hx]at hk;cases hk
            | some y=>
             obtain⟨t2,s2⟩:=y
             rw[hx]at hk
             simp only at hk
             have h1:=ih _ _ _ _ _ h hx
             split at hk
             ·simp only[Option.some.injEq,Prod.mk.injEq]at hk
              rw[<-hk.2];exact h1
             ·exact D2 (fun b s t s' hs hx=>ih _ b s t s' hs hx) _ _ _ _ _ h1 hk
           ·cases hx:wM K f ((ap K.ns i).subs.getD 0 0) a s with
            | none=>rw[hx]at hk;cases hk
            | some y=>
             obtain⟨t2,s2⟩:=y
             rw[hx]at hk
             simp only[Option.map_some,Option.some.injEq,Q1,Prod.mk.injEq]at hk
             have h1:=ih _ _ _ _ _ h hx
             rw[<-hk.2];exact h1
    unfold rT at he
    split at he
    ·simp only[Prod.mk.injEq]at he;rw[<-he.2];exact fV
    ·simp only[Prod.mk.injEq]at he;rw[<-he.2];exact fV
end
theorem Id {K:Wc}{n bud g:Nat}{o:Ot}{t:Int}{s':Wt}{r:Rs}(h:tM K n bud o g t s' r):1<=s'.dn:=by
 have he:=h.run
 unfold lQ at he
 have hf:fh K.mc (eg n (oX bud)).mem ⟨K.inp,0,0⟩=(none,(eg n (oX bud)).mem):=rfl
 rw[hf]at he
 simp only at he
 cases hc:nJ (fun j s=>wM K g j 0 s) (ap K.ns (cL K.rs 0)).subs (j8 (eg n (oX bud)) (eg n (oX bud)).mem) with
 | none=>rw[hc]at he;cases he
 | some y=>
  obtain⟨t1,s1⟩:=y
  rw[hc]at he
  simp only[Option.some.injEq,Prod.mk.injEq]at he
  have h1:=zw _ (fun j _ s t s' hs hx=>Q2 g j 0 s t s' hs hx) _ _ _ (show 1<=(j8 (eg n (oX bud)) (eg n (oX bud)).mem).dn from Nat.le_refl _) hc
  rw[<-he.2]
  exact h1
end Go.Proofs.YtagklnaaoclmhaaGreatDoor
