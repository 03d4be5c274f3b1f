import Derived.Test.YtagklnaaoclmhaaGreatDoorMnBD
import Derived.Test.YtagklnaaoclmhaaGreatDoorMnDF
set_option linter.unusedSimpArgs false
set_option linter.unusedVariables false
set_option maxRecDepth 100000
set_option maxHeartbeats 16000000
namespace Go.Proofs.YtagklnaaoclmhaaGreatDoor
open Go.RowKit
inductive Nt (ns:List Nd):Nat->Nat->Prop
 | refl (i:Nat):Nt ns i i
 | step {i j k:Nat} (h:j∈(ap ns i).subs) (hd:Nt ns j k):Nt ns i k
theorem Nt.app {ns:List Nd}(hW:Wf ns)(l:List Nd){i k:Nat}(h:Nt ns i k):i<ns.length->Nt (ns++l) i k:=by
 induction h with
 | refl i=>exact fun _=>.refl i
 | @step i j k hj hd ih=>
  intro hi
  have:=(be hW hi).low j hj
  exact .step (by rw[fL hi];exact hj) (ih (by omega))
structure Dl (A B:St)(L:List Nat):Prop where
 wf:Wf B.ns
 lt:∀j∈L,j<B.ns.length
 ext:∃l,B.ns=A.ns++l
 all:∀k,A.ns.length<=k->k<B.ns.length->∃j∈L,Nt B.ns j k
theorem Dl.sc {A B:St}{L:List Nat}(h:Dl A B L)(g:Sc):Dl A { B with sc:=g } L:=⟨h.wf,h.lt,h.ext,h.all⟩
theorem Dl.nil {A:St}(h:Wf A.ns):Dl A A []:=⟨h,by simp,⟨[],by simp⟩,fun k h1 h2=>absurd h2 (by omega)⟩
theorem Dl.join {A B C:St}{L M:List Nat}(h:Dl A B L)(k:Dl B C M):Dl A C (L++M):=by
 obtain⟨l,hl⟩:=h.ext
 obtain⟨m,hm⟩:=k.ext
 refine⟨k.wf,fun j hj=>?_,⟨l++m,by rw[hm,hl,List.append_assoc]⟩,fun x h1 h2=>?_⟩
 ·rcases List.mem_append.1 hj with e | e
  ·have:=h.lt j e;rw[hm,List.length_append];omega
  ·exact k.lt j e
 ·by_cases hx:x<B.ns.length
  ·obtain⟨j,hj,hd⟩:=h.all x h1 hx
   exact⟨j,List.mem_append_left _ hj,by rw[hm];exact hd.app h.wf m (h.lt j hj)⟩
  ·obtain⟨j,hj,hd⟩:=k.all x (by omega) h2
   exact⟨j,List.mem_append_right _ hj,hd⟩
theorem Dl.over {A B:St}{L:List Nat}(h:Dl A B L){N:Nd}(hN:sD B.ns.length N)(hs:N.subs=L):Dl A (aP B N).1 [(aP B N).2]:=by
 have UH:=h.wf.push hN
 obtain⟨l,hl⟩:=h.ext
 refine⟨UH,fun j hj=>?_,⟨l++[N],by show B.ns++[N]=_;rw[hl,List.append_assoc]⟩,fun k h1 h2=>⟨B.ns.length,by simp[aP],?_⟩⟩
 ·simp[aP]at hj;rw[hj];simp[aP]
 ·have Gk:k<(B.ns++[N]).length:=h2
  rw[List.length_append,List.length_singleton]at Gk
  show Nt (B.ns++[N]) B.ns.length k
  by_cases e:k=B.ns.length
  ·rw[e];exact .refl _
  ·obtain⟨j,hj,hd⟩:=h.all k h1 (by omega)
   exact .step (by rw[ik,hs];exact hj) (hd.app h.wf [N] (h.lt j hj))
def l8 (ch:St->St × Nat):Prop:=∀A,Wf A.ns->Dl A (ch A).1 [(ch A).2]
theorem Dl.plain {A:St}(g:Sc)(h:Wf A.ns){N:Nd}(h1:N.subs=[])(h2:N.kind<=5):Dl A (aP { A with sc:=g } N).1 [(aP { A with sc:=g } N).2]:=
 ((Dl.nil h).sc g).over (mQ h1 h2) h1
theorem TW {s:ByteArray}{ch:St->St × Nat}(dH:l8 ch):l8 (aR s ch):=by
 intro A h
 unfold aR
 split
 ·exact Dl.plain _ h rfl (by first | decide | (dsimp only;omega))
 ·split
  ·exact Dl.plain _ h rfl (by first | decide | (dsimp only;omega))
  ·split
   ·exact Dl.plain _ h rfl (by first | decide | (dsimp only;omega))
   ·split
    ·exact Dl.plain _ h rfl (by first | decide | (dsimp only;omega))
    ·split
     ·have:=dH { A with sc:=ez (bl s A.sc) } h
      exact⟨this.wf,this.lt,this.ext,this.all⟩
     ·exact Dl.plain _ h rfl (by first | decide | (dsimp only;omega))
theorem TC {s:ByteArray}{ch:St->St × Nat}(dH:l8 ch):l8 (bP s ch):=by
 intro A h
 have yM:=TW (s:=s) dH { A with sc:=bn s A.sc } h
 unfold bP
 generalize aR s ch { A with sc:=bn s A.sc }=X at *
 have hp:Dl A X.1 [X.2]:=⟨yM.wf,yM.lt,yM.ext,yM.all⟩
 have hr:Dl A (cG s X).1 [(cG s X).2]:=by
  unfold cG
  split
  ·next hk=>
   have gf:bm (pk s (bl s X.1.sc))<=10:=by unfold bm;(repeat' split) <;> omega
   exact(hp.sc (bM (bl s X.1.sc))).over (mR (hp.lt _ (by simp)) gf) rfl
  ·exact hp.sc _
 generalize cG s X=R at *
 unfold eG
 split
 ·next hk=>
  have gf:cY s A.sc<=10:=by unfold cY;(repeat' split) <;> omega
  exact hr.over (mR (hr.lt _ (by simp)) gf) rfl
 ·exact hr
theorem LT {s:ByteArray}{ch:St->St × Nat}(dH:l8 ch){A0:St}:∀f acc A,Dl A0 A acc->Dl A0 (dk s ch f acc A).1 (dk s ch f acc A).2
 | 0,acc,A,h=>h
 | f+1,acc,A,h=>by
  have hp:=h.join (TC (s:=s) dH A h.wf)
  rw[dk]
  generalize bP s ch A=X at *
  split
  ·exact hp.sc _
  ·exact LT dH f _ _ (hp.sc _)
theorem YM {s:ByteArray}{ch:St->St × Nat}(dH:l8 ch):l8 (eT s ch):=fun A h=>by
 have h1:=LT (s:=s) dH (s.size+3) [] A (Dl.nil h)
 exact h1.over (N:={ cj with kind:=5,subs:=(dk s ch (s.size+3) [] A).2 }) ⟨h1.lt,fun x=>absurd x (by simp),by simp⟩ rfl
theorem Jn {s:ByteArray}{ch:St->St × Nat}(dH:l8 ch){A0:St}:∀f acc A,Dl A0 A acc->Dl A0 (dD s ch f acc A).1 (dD s ch f acc A).2
 | 0,acc,A,h=>h
 | f+1,acc,A,h=>by
  have hp:=h.join (YM (s:=s) dH A h.wf)
  rw[dD]
  generalize eT s ch A=X at *
  split
  ·exact Jn dH f _ _ (hp.sc _)
  ·exact hp.sc _
theorem Wb {s:ByteArray}{ch:St->St × Nat}(dH:l8 ch):l8 (jU s ch):=fun A h=>by
 have h1:=Jn (s:=s) dH (s.size+3) [] A (Dl.nil h)
 exact h1.over (N:={ cj with kind:=4,subs:=(dD s ch (s.size+3) [] A).2 }) ⟨h1.lt,fun x=>absurd x (by simp),by simp⟩ rfl
theorem Jk (s:ByteArray):∀d,l8 (dw s d)
 | 0=>fun A h=>Dl.plain A.sc h (N:=cj) rfl (by decide)
 | d+1=>Wb (Jk s d)
theorem FA {s:ByteArray}{A0:St}:∀f X rs,Dl A0 X (rs.map Rl.is)->Dl A0 (cX s f X rs).1 ((cX s f X rs).2.map Rl.is)
 | 0,X,rs,h=>h
 | f+1,X,rs,h=>by
  rw[cX]
  split
  ·split
   ·exact h.sc _
   ·refine FA f _ _ ?_
    have h1:Dl A0 { X with sc:=mu s (bz s X.sc).2 61 } (rs.map Rl.is):=h.sc _
    have h2:=h1.join (Jk s 6 { X with sc:=mu s (bz s X.sc).2 61 } h1.wf)
    rw[List.map_append]
    exact h2.sc _
  ·exact h
theorem T6 {rs:List Rl}{ns:List Nd}{S:Nat->Bool}(hW:Wf ns){i k:Nat}(h:Nt ns i k):i<ns.length->rE rs ns S ns.length i=false->rE rs ns S ns.length k=false:=by
 induction h with
 | refl i=>exact fun _ h=>h
 | @step i j k hj hd ih=>
  intro hi hr
  have:=(be hW hi).low j hj
  exact ih (by omega) (oQ hW hi hr hj).1
theorem RB {G:ByteArray}{S:Nat->Bool}(hE:gD (aq G).2 (aq G).1.ns S)(k:Nat)(hk:k<(aq G).1.ns.length):rE (aq G).2 (aq G).1.ns S (aq G).1.ns.length k=false:=by
 have h:=FA (s:=G) 10 ⟨⟨0,-1,0,0⟩,[]⟩ [] (Dl.nil Wf.nil)
 obtain⟨j,hj,hd⟩:=h.all k (Nat.zero_le _) hk
 obtain⟨r,hr,rfl⟩:=List.mem_map.1 hj
 obtain⟨i,hi,rfl⟩:=List.getElem_of_mem hr
 have eM:i<(aq G).2.length:=hi
 have kh:=hE.no i eM
 unfold ko at kh
 rw[Bool.or_eq_false_iff]at kh
 have he:cL (aq G).2 i=((aq G).2[i]).is:=bQ _ _ _ _ eM
 rw[he]at kh
 exact T6 hE.wf.wf hd (h.lt _ hj) kh.2
def FW (ev:List (Nat × Nat)):Prop:=∀e∈ev,e.2<40
theorem FW.app {l m:List (Nat × Nat)}(h:FW l)(k:FW m):FW (l++m):=fun e he=>by
 rcases List.mem_append.1 he with x | x
 ·exact h e x
 ·exact k e x
theorem Jf {s:Nat->Option Ot}(h:∀j o,s j=some o->FW o.ev):∀l o,iP s l=some o->FW o.ev
 | [],o,ho=>by rw[iP]at ho;cases ho;intro e he;simp at he
 | j :: l,o,ho=>by
  rw[iP]at ho
  cases hx:s j with
  | none=>rw[hx]at ho;cases ho
  | some p=>
   rw[hx]at ho
   simp only at ho
   split at ho
   ·cases ho;exact h j _ hx
   ·cases hl:iP s l with
    | none=>rw[hl]at ho;cases ho
    | some q=>
     rw[hl]at ho
     simp only[Option.map_some,Option.some.injEq]at ho
     subst ho
     exact(h j p hx).app (Jf h l q hl)
theorem L6 {s:Nat->Nat->Option Ot}(h:∀j a o,s j a=some o->FW o.ev):∀l a o,iE s l a=some o->FW o.ev
 | [],a,o,ho=>by rw[iE]at ho;cases ho;intro e he;simp at he
 | j :: l,a,o,ho=>by
  rw[iE]at ho
  cases hx:s j a with
  | none=>rw[hx]at ho;cases ho
  | some p=>
   rw[hx]at ho
   simp only at ho
   cases hp:p.to with
   | none=>rw[hp]at ho;cases ho;exact h j a p hx
   | some t=>
    rw[hp]at ho
    simp only at ho
    cases hl:iE s l t with
    | none=>rw[hl]at ho;cases ho
    | some q=>
     rw[hl]at ho
     simp only[Option.map_some,Option.some.injEq]at ho
     subst ho
     exact(h j a p hx).app (L6 h l t q hl)
theorem DN {s:Nat->Option Ot}(h:∀a o,s a=some o->FW o.ev):∀f a o,gy s f a=some o->FW o.ev
 | 0,a,o,ho=>by rw[gy]at ho;cases ho
 | f+1,a,o,ho=>by
  rw[gy]at ho
  cases hx:s a with
  | none=>rw[hx]at ho;cases ho
  | some p=>
   rw[hx]at ho
   simp only at ho
   cases hp:p.to with
   | none=>rw[hp]at ho;cases ho;exact h a p hx
   | some t=>
    rw[hp]at ho
    simp only at ho
    cases hl:gy s f t with
    | none=>rw[hl]at ho;cases ho
    | some q=>
     rw[hl]at ho
     simp only[Option.map_some,Option.some.injEq]at ho
     subst ho
     exact(h a p hx).app (DN h f t q hl)
theorem Lo {b:Nat->Nat}{len:Nat}{rs:List Rl}{ns:List Nd}(ht:∀i,(ap ns i).term<40):∀f i a dp o,bR b len rs ns f i a dp=some o->FW o.ev
 | 0,i,a,dp,o,h=>by rw[bR]at h;cases h
 | f+1,i,a,dp,o,h=>by
  have ih:=Lo (b:=b) (len:=len) (rs:=rs) ht f
  rw[bR]at h
  split at h
  ·cases h
   unfold Md
   intro e he
   simp only at he
   split at he
   ·simp at he;rw[he];exact ht i
   ·simp at he
  split at h
  ·cases hx:bR b len rs ns f (cL rs (dI rs (ap ns i))) a (dp+1) with
   | none=>rw[hx]at h;cases h
   | some p=>
    have Qj:=ih _ _ _ p hx
    rw[hx]at h;simp only[Option.map_some,Option.some.injEq]at h;subst h;exact Qj
  split at h
  ·exact Jf (fun j o h=>ih j a dp o h) _ _ h
  split at h
  ·exact L6 (fun j a o h=>ih j a dp o h) _ _ _ h
  split at h
  ·cases hx:bR b len rs ns f ((ap ns i).subs.getD 0 0) a dp with
   | none=>rw[hx]at h;cases h
   | some p=>
    have Qj:=ih _ _ _ p hx
    rw[hx]at h
    simp only[Option.map_some,Option.some.injEq]at h
    subst h
    split
    ·exact Qj
    ·exact Qj
  split at h
  ·exact DN (fun a o h=>ih _ a dp o h) _ _ _ h
  split at h
  ·cases hx:bR b len rs ns f ((ap ns i).subs.getD 0 0) a dp with
   | none=>rw[hx]at h;cases h
   | some p=>
    rw[hx]at h
    simp only at h
    cases hp:p.to with
    | none=>
     have Qj:=ih _ _ _ p hx
     rw[hp]at h;cases h;exact Qj
    | some u=>
     rw[hp]at h
     simp only at h
     cases hl:gy (fun a=>bR b len rs ns f ((ap ns i).subs.getD 0 0) a dp) f u with
     | none=>rw[hl]at h;cases h
     | some p2=>
      rw[hl]at h
      simp only[Option.map_some,Option.some.injEq]at h
      subst h
      exact(ih _ _ _ _ hx).app (DN (fun a o h=>ih _ a dp o h) _ _ _ hl)
  cases hx:bR b len rs ns f ((ap ns i).subs.getD 0 0) a dp with
  | none=>rw[hx]at h;cases h
  | some p=>
   have Qj:=ih _ _ _ p hx
   rw[hx]at h;simp only[Option.map_some,Option.some.injEq]at h;subst h;exact Qj
theorem NX {ev:List (Nat × Nat)}(h:FW ev):(cH ev).2<2^40:=by
 unfold cH
 suffices hs:∀(l:List (Nat × Nat)) (s:Int × Nat),FW l->s.2<2^40->(l.foldl fI s).2<2^40 from hs ev JD h (by decide)
 intro l
 induction l with
 | nil=>intro s _ hs;exact hs
 | cons e l ih=>
  intro s hl hs
  rw[List.foldl_cons]
  exact ih _ (fun x hx=>hl x (List.mem_cons_of_mem _ hx)) (EA hs (hl e (List.mem_cons_self ..)))
theorem RH {m:Nat}(h:m<2^40):(List.range 41).filter (fun t=>m.testBit t)=vw m:=by
 unfold vw
 have h1:List.range (41+23)=List.range 41++(List.range 23).map (41+·):=List.range_add
 rw[show (64:Nat)=41+23 from rfl]
 rw[h1,List.filter_append]
 have h2:((List.range 23).map (41+·)).filter (fun t=>m.testBit t)=[]:=by
  rw[List.filter_eq_nil_iff]
  intro t ht
  obtain⟨x,_,rfl⟩:=List.mem_map.1 ht
  rw[Nat.testBit_lt_two_pow (Nat.lt_of_lt_of_le h (Nat.pow_le_pow_right (by decide) (by omega)))]
  simp
 rw[h2,List.append_nil]
end Go.Proofs.YtagklnaaoclmhaaGreatDoor
namespace Go.Proofs.YtagklnaaoclmhaaGreatDoor
open Go.RowKit
attribute [local go_sem ↓] bw aX aZ aY aF bU bB bF bD cC bT bV cg bN
attribute [local go_sem] bc aQ aS bY bv aT aU aV aW aD bG bp bu bi bX bJ bK bx cA b9 cd bf aK au aN
theorem su {R:Rc}(hR:If R):∀f,tJ R f
 | 0=>fun i a dp o t base tv L w _ _ h=>by rw[bR]at h;cases h
 | f+1=>fun i a dp o t base tv L w hi ha h eQ hT hl hdp=>by
  have hG:=su hR f
  have fN:=hR.kind i hi
  have h0:=h
  rw[bR]at h
  by_cases co:(ap R.ns i).kind<=2
  ·rw[if_pos co]at h
   have h':=Option.some.inj h
   exact JN hR hi ha (by omega) h0 eQ (by rw[<-h'];rfl) hT
  rw[if_neg co]at h
  by_cases ff:(ap R.ns i).kind=3
  ·rw[if_pos ff]at h
   obtain⟨h1,h2⟩:=hR.nm i hi ff
   cases hx:bR (am R.s) R.s.size R.rs R.ns f (cL R.rs (dI R.rs (ap R.ns i))) a (dp+1) with
   | none=>rw[hx]at h;cases h
   | some p=>
    rw[hx]at h
    simp only[Option.map_some,Option.some.injEq]at h
    have hp:p.to=some t:=by rw[<-h]at eQ;exact eQ
    have E1:o.tr=⟨dI R.rs (ap R.ns i),a,t,dp⟩ :: p.tr:=by
     rw[<-h]
     show (match p.to with | some t=>(⟨dI R.rs (ap R.ns i),a,t,dp⟩:Ie) :: p.tr | none=>[])=_
     rw[hp]
    rw[E1]at hl ⊢
    rw[List.map_cons]
    exact JL hR hG hi ha ff h1 hx hp hT (by simpa using hl) hdp
  rw[if_neg ff]at h
  by_cases lc:(ap R.ns i).kind=4
  ·rw[if_pos lc]at h
   exact JJ hR hG hi ha lc h eQ hT hl hdp
  rw[if_neg lc]at h
  by_cases pC:(ap R.ns i).kind=5
  ·rw[if_pos pC]at h
   exact JM hR hG hi ha pC h eQ hT hl hdp
  rw[if_neg pC]at h
  have h1:=hR.one i hi (by omega)
  have oL:(ap R.ns i).subs.getD 0 0<R.ns.length:=hR.low i hi _ (by rw[h1];simp)
  by_cases ti:(ap R.ns i).kind=6
  ·rw[if_pos ti]at h
   cases hx:bR (am R.s) R.s.size R.rs R.ns f ((ap R.ns i).subs.getD 0 0) a dp with
   | none=>rw[hx]at h;cases h
   | some p=>
    rw[hx]at h
    simp only[Option.map_some,Option.some.injEq]at h
    refine JK hR hG hi ha ti h1 oL hx eQ ?_ hT hl hdp
    cases hp:p.to with
    | none=>
     rw[if_pos (by rw[hp];rfl)]at h
     left
     rw[<-h]at eQ ⊢
     exact⟨rfl,(Option.some.inj eQ).symm,rfl⟩
    | some u=>
     rw[if_neg (by rw[hp];simp)]at h
     right
     rw[<-h]at eQ ⊢
     rw[<-hp]
     exact⟨eQ,rfl⟩
  rw[if_neg ti]at h
  by_cases tj:(ap R.ns i).kind=7
  ·rw[if_pos tj]at h
   exact At hR hG hi ha (.inl tj) h1 oL h eQ hT hl hdp
  rw[if_neg tj]at h
  by_cases lW:(ap R.ns i).kind=8
  ·rw[if_pos lW]at h
   refine At (n:=f+1) hR hG hi ha (.inr lW) h1 oL ?_ eQ hT hl hdp
   rw[gy]
   cases hx:bR (am R.s) R.s.size R.rs R.ns f ((ap R.ns i).subs.getD 0 0) a dp with
   | none=>simp only[hx]at h;cases h
   | some p=>
    simp only[hx]at h
    cases hp:p.to with
    | none=>
     simp only[hp]at h
     have h':=Option.some.inj h
     rw[<-h']at eQ
     cases eQ
    | some u=>
     simp only[hp]at h ⊢
     exact h
  rw[if_neg lW]at h
  cases hx:bR (am R.s) R.s.size R.rs R.ns f ((ap R.ns i).subs.getD 0 0) a dp with
  | none=>rw[hx]at h;cases h
  | some p=>
   rw[hx]at h
   simp only[Option.map_some,Option.some.injEq]at h
   have h2:o.tr=[]:=by rw[<-h]
   have h3:a=t:=by
    rw[<-h]at eQ
    have Tf:(if p.to.isSome=decide ((ap R.ns i).kind=9) then some a else none)=some t:=eQ
    split at Tf
    ·exact Option.some.inj Tf
    ·cases Tf
   rw[h2,List.map_nil,List.append_nil,<-h3]
   exact JI hR hi ha (by omega) hT
theorem Ub {R:Rc}(hG:dj R.G=(0,0))(hs:R.s.size<=60):If R:=by
 obtain⟨h4,hb,S,hE⟩:=jl hG
 have hq:=uU h4 hb
 have Ov:=pW h4
 have hW:=hE.wf.wf
 have eP:∀i,i<R.ns.length->F1 R.G (ap R.ns i):=fun i hi=>hq.nd _ (by
  have eM:i<(aq R.G).1.ns.length:=hi
  show ap (aq R.G).1.ns i∈_
  rw[bA eM];exact List.getElem_mem _)
 have sl:∀i,i<R.ns.length->(ap R.ns i).kind=3->dg R.rs (ap R.ns i).name=some (dI R.rs (ap R.ns i))/\dI R.rs (ap R.ns i)<R.rs.length:=fun i hi hk=>by
  have eM:i<(aq R.G).1.ns.length:=hi
  have h1:=hE.nm (ap (aq R.G).1.ns i) (by rw[bA eM];exact List.getElem_mem _) hk
  obtain⟨k,fU⟩:=Option.isSome_iff_exists.1 h1
  have h2:dI R.rs (ap R.ns i)=k:=by unfold dI;show (dg (aq R.G).2 (ap (aq R.G).1.ns i).name).getD 0=k;rw[fU];rfl
  rw[h2]
  exact⟨fU,kY fU⟩
 have dA:=fun f i a dp o t=>mN (b:=am R.s) (len:=R.s.size) hE.wf hE.nm hE.ls f i a dp o t
 have dL:=fun i hi hk=>DZ hW (i:=i) hi hk
 refine⟨hs,by show (aq R.G).1.ns.length<=5000;omega,hE.wf.len,fun n hn=>dy hE.wf hn,fun i hi j hj=>by have:=(be hW hi).low j hj;omega,fun i hi=>by have:=(eP i hi).term;omega,fun i hi=>by have:=(eP i hi).tx;omega,fun i hi=>(be hW hi).kind,fun i hi hk=>(dL i hi hk).1,sl,fun f i a dp o t hi ha h ht=>?_,fun f i a dp o t hi hk ha h ht=>?_⟩
 ·obtain⟨x,y,_⟩:=dA f i a dp o t hi ha h ht
  exact⟨x,y⟩
 ·have fU:(ap (aq R.G).1.ns i).kind=7\/(ap (aq R.G).1.ns i).kind=8:=hk
  have eM:i<(aq R.G).1.ns.length:=hi
  have hx:=(dL i eM (by omega)).2
  obtain⟨x,y,z⟩:=dA f ((ap (aq R.G).1.ns i).subs.getD 0 0) a dp o t (by omega) ha h ht
  refine⟨?_,y⟩
  rcases Nat.lt_or_ge a t with e | e
  ·exact e
  ·exfalso
   have hz:=z (by omega)
   have h5:=(oQ hW eM (RB hE i eM) (j:=(ap (aq R.G).1.ns i).subs.getD 0 0) (by have:=(dL i eM (by omega)).1;rw[this];simp)).2 fU
   rw[h5]at hz
   cases hz
structure RpO (o:Ot)(w:World)(e:Ending)(w':World):Prop where
 ex:∃(B:Bool) (T:Int) (tp fp:Option Addr) (tn tc fn fc:Nat),e=.returned (.tuple #[.agg #[.bool B,.int .i64 T,.slice tp tn tc,.int .i64 (cH o.ev).1,.slice fp fn fc],.int .i64 ((min cJ (o.rn+1):Nat):Int)])/\
  qC w' w.heap.size (mY o.to) ((jx 0 0 0 o).tr.map nI) (cH o.ev).2 B T (.slice tp tn tc) (.slice fp fn fc)
 kept:aa (fun _=>False) w w'
structure Zk (X:Cl)(kb ab:Nat)(w2:World)(q:Nat)(wz:World):Prop where
 cl:ai wz kb=some (.cells (cO (some X)).toArray 121 (0,0))
 ans:∃fp fc,wz.heap[ab]?=some (.cells #[.bool X.ok,.int .i64 0,.slice none 0 0,.int .i64 X.far.1,.slice fp ((List.range q).filter (fun t=>X.far.2.testBit t)).length fc] 31 (0,0))/\wz.ownsRow w2.heap.size 3 1 (.slice fp ((List.range q).filter (fun t=>X.far.2.testBit t)).length fc) ((List.range q).filter (fun t=>X.far.2.testBit t)).length (((List.range q).filter (fun t=>X.far.2.testBit t)).map wA)
 kept:aa (fun _=>False) w2 wz
theorem Jc {w:World}{k:Nat}{x:Cl}(h:ai w k=some (.cells (cO (some x)).toArray 121 (0,0))){j:Nat}(hj:j<41):w.cell? ⟨k,4+j,none⟩=some (.bool (x.far.2.testBit j)):=by
 rw[al h,List.getElem?_toArray]
 simp only[cO]
 rw[show 4+j=j+1+1+1+1 by omega]
 simp only[List.getElem?_cons_succ]
 rw[List.getElem?_append_left (by rw[ml];exact hj)]
 unfold jS
 rw[List.getElem?_map,List.getElem?_range hj]
 rfl
theorem pX {G s:ByteArray}{gb base f:Nat}{nv rv:Value}{U:Nat->Prop}{w:World}{o:Ot}(hG:dj G=(0,0))(hs:s.size<=60)(hD:lS w base gb G nv rv U (aq G).1 (aq G).2)(hm:bR (am s) s.size (aq G).2 (aq G).1.ns f (cL (aq G).2 0) 0 1=some o):
  Calls Tryz.prog 34 #[.pointer (some ⟨gb,0,none⟩),.string s] w fun e w'=>RpO o w e w':=by
 obtain⟨i0,iC,gH,iD,iz⟩:=info_parts QH
 obtain⟨rp,rc,dU⟩:=an hD.ru
 obtain⟨g0,g1,gx⟩:=hD.rg.gis.cells
 clear gx
 rw[dU]at g1
 obtain⟨R,Sb⟩:∃R:Rc,R=⟨w.heap.size+2,gb,w.heap.size+1,base,s,G,nv,rv,U⟩:=⟨_,rfl⟩
 have hR:If R:=by rw[Sb];exact Ub hG hs
 have mE:0<(aq G).2.length:=kE hG
 have h8:=(rH G).len
 obtain⟨wa,mI⟩:∃wa,wa=w.alloc (.cells #[.bool false,.int .i64 0,.slice none 0 0,.int .i64 0,.slice none 0 0] 31):=⟨_,rfl⟩
 have Ka:aa (fun _=>False) w wa:=by rw[mI];exact(aa.refl _ w).alloc _
 have g1a:wa.cell? ⟨gb,1,none⟩=some (.slice rp (aq G).2.length rc):=(Ka.cell (p:=⟨gb,1,none⟩) (av g1) (fun x=>x)).trans g1
 have hza:wa.heap.size=w.heap.size+1:=by rw[mI];simp
 have yL:=LA gb s (aq G).2.length rc rp wa h8 hs g1a
 rw[hza]at yL
 have wn:wa.heap[w.heap.size]?=some (.cells #[.bool false,.int .i64 0,.slice none 0 0,.int .i64 0,.slice none 0 0] 31 (0,0)):=by rw[mI];exact heap_alloc_new _ _
 have HOV:=ae yL
 have MR:=ae Ka
 have PN:=ae wn
 have HD:=ae hD
 have HM:=ae hm
 have NA:=ae Sb
 have Hza:=ae hza
 clear yL Ka wn hD hm g0 g1 g1a Sb hza
 go_enter Tryz.func34,Tryz.ntmps34
 go_wp2_with fail
 rw[<-mI]
 clear mI
 refine HOV.out.mono ?_
 rintro e w1 ⟨rfl,vQ,se,K1⟩
 have iL:m7 R w1 (fun _=>none) (.slice none 0 0):=by
  rw[NA.out]
  exact⟨vQ,se,(fun _ _ _ _ _ h=>absurd h (by simp)),(HD.out.kept2 MR.out (fun _ x=>x.elim)).kept2 K1 (fun _ x=>x.elim)⟩
 have S7:=Bz (n:=0) (a:=0) (dp:=1) (fM hR f) hR.s hR.r8 hR.is (by rw[NA.out];exact mE) (Nat.zero_le _) (by rw[NA.out];exact HM.out) iL
 have ZD:R.fb=w.heap.size+2:=by rw[NA.out]
 rw[ZD]at S7
 have HRL:=ae S7
 have jE:=ae K1
 have PP:=ae iL
 have Ur:=ae ZD
 clear S7 K1 iL vQ se ZD
 go_wp2_with fail
 refine HRL.out.mono ?_
 intro e w2 hO
 obtain⟨X,hX⟩:∃X,X=iq o 0:=⟨_,rfl⟩
 have he:=hO.res
 rw[<-hX]at he
 subst he
 have Qg:=dv (some X)
 have hXo:=iZ (some X)
 have ZU:=kJ
 obtain⟨wb,rA⟩:∃wb,wb=(w2.alloc (.cells xW 121)).setCells w2.heap.size 0 (cO (some X)):=⟨_,rfl⟩
 have Kb:aa (fun _=>False) w2 wb:=by
  rw[rA]
  exact((aa.refl (fun _=>False) w2).alloc _).then (dR _ _ _ _) (fun i hi e=>by have e':i=w2.heap.size:=e;omega)
 have og:ai wb w2.heap.size=some (.cells (cO (some X)).toArray 121 (0,0)):=by
  rw[rA]
  show ((w2.alloc (.cells xW 121)).setCells w2.heap.size 0 (cO (some X))).heap[w2.heap.size]?=_
  rw[eu w2.heap.size (cO (some X)) 0 _ xW 121 (heap_alloc_new _ _) (by rw[Qg,ZU];decide),tB (by rw[ZU,Qg])]
 obtain⟨x1,x2,x3,YV⟩:=gZ og
 have sQ:=av x1
 have HO:=ae hO
 have HX:=ae hX
 have HKb:=ae Kb
 have HOB:=ae og
 clear hO hX Kb og
 go_upto_region 3 with fail
 rw[<-rA]
 clear rA
 go_wp2_with fail
 obtain⟨kb,dx⟩:∃kb,kb=w2.heap.size:=⟨_,rfl⟩
 obtain⟨ab,gu⟩:∃ab,ab=wb.heap.size:=⟨_,rfl⟩
 obtain⟨wc,Ti⟩:∃wc,wc=wb.alloc (.cells #[.bool X.ok,.int .i64 0,.slice none 0 0,.int .i64 X.far.1,.slice none 0 0] 31):=⟨_,rfl⟩
 rw[<-Ti,<-dx,<-gu]
 have HP0:Hid (Zk X kb ab w2 0 wc):=by
  refine⟨?_,⟨none,0,?_,World.ownsRow_nil _ _ _ _⟩,?_⟩
  ·rw[Ti,dx];exact(aN _ _ sQ).trans HOB.out
  ·rw[Ti,gu];exact heap_alloc_new _ _
  ·rw[Ti];exact HKb.out.alloc _
 have PR:=ae dx
 have Hab:Hid (w2.heap.size<=ab):=by unfold Hid;rw[gu];exact HKb.out.size
 clear dx gu Ti x1 x2 x3 YV sQ
 go_loopg [9] 41 (fun gn v9 wz=>∃q:Nat,q<=41/\gn=41-q/\v9=.int .i64 q/\Hid (Zk X kb ab w2 q wz))
 case atStart=>exact⟨0,by omega,rfl,rfl,HP0⟩
 case round=>
  obtain⟨q,hq,iI,rfl,HP⟩:=hrel
  have lR:=ae iI
  clear iI
  obtain⟨fp,fc,hA,bW⟩:=HP.out.ans
  obtain⟨a0,a1,a2,a3,a4⟩:=bS hA
  have kL:=av a0
  have uz:=ag HP.out.cl
  have iB:=fun(q:Nat)=>List.length_filter_le (fun t=>X.far.2.testBit t) (List.range q)
  have W2:=iB q
  rw[List.length_range]at W2
  have Qv:List.range (q+1)=List.range q++[q]:=List.range_succ
  by_cases hqlt:q<41
  ·have v8:=Jc HP.out.cl hqlt
   have mG:(q:Int)<41:=by omega
   cases hB:X.far.2.testBit q
   ·rw[hB]at v8
    have HN:Hid (Zk X kb ab w2 (q+1) wr):=by
     have e:(List.range (q+1)).filter (fun t=>X.far.2.testBit t)=(List.range q).filter (fun t=>X.far.2.testBit t):=by rw[Qv,List.filter_append];simp[hB]
     refine⟨HP.out.cl,?_,HP.out.kept⟩
     rw[e]
     exact HP.out.ans
    clear hB Qv hA bW
    go_wp2
    go_roundg (41-(q+1))
    case measure=>have:=lR.out;omega
    case rel=>exact⟨q+1,by omega,rfl,by go_num,HN⟩
   ·rw[hB]at v8
    have e:(List.range (q+1)).filter (fun t=>X.far.2.testBit t)=(List.range q).filter (fun t=>X.far.2.testBit t)++[q]:=by rw[Qv,List.filter_append];simp[hB]
    have HE:=ae e
    have zN:=ae bW
    have HA:=ae hA
    generalize hFl:(List.range q).filter (fun t=>X.far.2.testBit t)=Fl at *
    have qdf:w2.heap.size<=wr.heap.size:=HP.out.kept.size
    have Na:∀w9:World,w9.heap[ab]?=some (.cells #[.bool X.ok,.int .i64 0,.slice none 0 0,.int .i64 X.far.1,.slice fp Fl.length fc] 31 (0,0))->w9.cell? ⟨ab,4,none⟩=some (.slice fp Fl.length fc)/\w9.frozen? ⟨ab,4,none⟩=false:=fun w9 h=>⟨by simp[World.cell?,h],by simp[World.frozen?,h]⟩
    have hna:¬(Value.slice fp Fl.length fc).ownBlock=some ab:=fun x=>by
     obtain⟨y,hy⟩:=ak bW x
     have ZT:wr.heap[ab]?=_:=hy
     rw[hA]at ZT;simp at ZT
    have Dd:¬(Value.slice fp Fl.length fc).ownBlock=some kb:=fun x=>by
     obtain⟨y,hy⟩:=ak bW x
     rw[HP.out.cl]at hy;simp at hy
    have qbf:¬kb=ab:=fun x=>by
     have h1:=HP.out.cl
     rw[x]at h1
     have h2:ai wr ab=_:=hA
     rw[h2]at h1;simp at h1
    have ku:∀(w9:World) (o:Obj),(wr.alloc o).grownBy w9 (Value.slice fp Fl.length fc).ownBlock->aa (fun k=>(Value.slice fp Fl.length fc).ownBlock=some k) wr w9:=fun w9 o hg=>((aa.refl _ wr).alloc _).grown hg (fun k h _=>h)
    have Cd:∀w9:World,aa (fun k=>(Value.slice fp Fl.length fc).ownBlock=some k) wr w9->w9.heap[ab]?=some (.cells #[.bool X.ok,.int .i64 0,.slice none 0 0,.int .i64 X.far.1,.slice fp Fl.length fc] 31 (0,0)):=fun w9 hk=>hk.blk hA hna
    clear hB Qv hA bW e
    go_wp2_with (at_builtin;refine wpList_append_lies _ rfl _ _ _ rfl w2.heap.size 3 i0 _ 1 8 Tryz.underlying29 iC gH iD iz rfl (by omega) (.slice fp Fl.length fc) Fl.length (Fl.map wA) (by rfl) (zN.out.alloc _) ⟨wr.heap.size,0,none⟩ 1 1 [.int .i64 (q:Int)] (by rfl) rfl (World.news_of_block (cs:=#[.int .i64 (q:Int)]) (t:=3) (fr:=(0,0)) (heap_alloc_new wr _)) (by simp[Value.oneCell']) (by omega) (by simp[maxLen];omega) (by omega) (by simp;omega) (wr.heap.size+1) (by simp) ?_;intro gg cap w9 hown9 hgrow dA bj;have sf:=ku w9 _ hgrow;obtain⟨u4,uf⟩:=Na w9 (Cd w9 sf))
    have HN:Hid (Zk X kb ab w2 (q+1) (w9.setCell ⟨ab,4,none⟩ (.slice (some ⟨gg,0,none⟩) (Fl.length+1) cap))):=by
     have K95:aa (fun k=>k=ab) w9 (w9.setCell ⟨ab,4,none⟩ (.slice (some ⟨gg,0,none⟩) (Fl.length+1) cap)):=(aa.refl (fun k=>k=ab) w9).setCell (p:=⟨ab,4,none⟩) (fun _=>rfl) _
     have hE:=HE.out
     refine⟨bI (bI HP.out.cl sf Dd) K95 qbf,⟨some ⟨gg,0,none⟩,cap,?_,?_⟩,?_⟩
     ·rw[hE,List.length_append,List.length_singleton]
      exact aj (Cd w9 sf) 4 _
     ·rw[hE,List.length_append,List.length_singleton,List.map_append]
      exact az hown9 K95 (fun k x y=>by
       have y':k=ab:=y
       obtain⟨z,hz⟩:=ak hown9 x
       rw[y']at hz
       have h2:ai w9 ab=_:=Cd w9 sf
       rw[h2]at hz;simp at hz)
     ·refine(HP.out.kept.then sf (fun k hk x=>?_)).then K95 (fun k hk x=>?_)
      ·have:=(zN.out.lt k x).1;omega
      ·have:=Hab.out;have x':k=ab:=x;omega
    clear hown9 hgrow dA bj sf u4 uf ku Cd Na
    go_wp2
    go_roundg (41-(q+1))
    case measure=>have:=lR.out;omega
    case rel=>exact⟨q+1,by omega,rfl,by go_num,HN⟩
  ·have qbt:q=41:=by omega
   subst qbt
   obtain⟨x1,x2,x3,YV⟩:=gZ HP.out.cl
   obtain⟨c2,gA⟩:=HO.out.st
   have Zx:=gA.same HP.out.kept
   have ni:(List.range 41).filter (fun t=>X.far.2.testBit t)=vw (cH o.ev).2:=by
    rw[HX.out]
    have Te:∀i,(ap (aq G).1.ns i).term<40:=fun i=>by
     obtain⟨h4,hb,S,hE⟩:=jl hG
     have hq:=uU h4 hb
     rcases Nat.lt_or_ge i (aq G).1.ns.length with h | h
     ·exact(hq.nd _ (by rw[bA h];exact List.getElem_mem _)).term
     ·unfold ap;rw[List.getD_eq_getElem?_getD,List.getElem?_eq_none h];decide
    exact RH (NX (Lo Te _ _ _ _ _ HM.out))
   rw[ni]at hA bW a4
   obtain⟨nf,Ni⟩:∃nf,nf=(vw (cH o.ev).2).length:=⟨_,rfl⟩
   rw[<-Ni]at hA bW a4
   have HNF:=ae Ni
   clear Ni
   have gW:X.rn=min cJ (o.rn+1):=by rw[HX.out];rfl
   have ZS:X.far.1=(cH o.ev).1:=by rw[HX.out];rfl
   have Di:wr.heap[w.heap.size]?=some (.cells #[.bool false,.int .i64 0,.slice none 0 0,.int .i64 0,.slice none 0 0] 31 (0,0)):=by
    have h1:=jE.out.blk PN.out (fun x=>x)
    have h2:w2.heap[w.heap.size]?=_:=HO.out.kept.blk h1 (fun x=>by have x':w.heap.size=R.cb:=x;rw[NA.out]at x';have x2:w.heap.size=w.heap.size+1:=x';omega)
    exact HP.out.kept.blk h2 (fun x=>x)
   have WQ:=Zx.fld.at_
   have Cg:Gt R w2.heap.size (.slice none 0 0) [] wr:=⟨⟨c2,Zx⟩,World.ownsRow_nil _ _ _ _,HP.out.kept.size⟩
   have qdi:w.heap.size+1<=w2.heap.size:=by have h1:=Hza.out;have h2:=jE.out.size;have h3:=HO.out.kept.size;omega
   have qcz:R.cb<w2.heap.size:=ag (show ai w2 R.cb=_ from gA.cel)
   have qcE:R.fb<w2.heap.size:=ag (show ai w2 R.fb=_ from gA.fld.at_)
   have J6:=Hab.out
   have Xy:w2.heap.size<=kb:=by have:=PR.out;omega
   have EH:aa (fun _=>False) w wr:=by
    have q1:aa (fun k=>k=R.cb) w w2:=((MR.out.trans jE.out).mono (fun _ _ x=>x.elim)).trans HO.out.kept
    have q2:aa (fun _=>False) w w2:=q1.mono (fun k hk x=>by have x':k=R.cb:=x;rw[NA.out]at x';have x2:k=w.heap.size+1:=x';omega)
    exact q2.trans HP.out.kept
   have S2:=ag (show ai wr w.heap.size=_ from Di)
   obtain⟨r0,r1,r2,r3,r4⟩:=bS Di
   have S1:¬w.heap.size=ab:=by omega
   have qc7:¬w.heap.size=kb:=by omega
   have qcp:¬ab=w.heap.size:=by omega
   have qcT:¬kb=w.heap.size:=by omega
   have qby:∀j,wr.frozen? ⟨w.heap.size,j,none⟩=false:=fun j=>bh (show ai wr w.heap.size=_ from Di)
   have qax:¬ab=kb:=fun x=>by
    have h1:=HP.out.cl
    rw[<-x]at h1
    have h2:ai wr ab=_:=hA
    rw[h2]at h1;simp at h1
   cases eQ:o.to with
   | none=>
    have iJ:X.ok=false:=by rw[HX.out];show o.to.isSome=false;rw[eQ];rfl
    rw[iJ]at x1 a0
    have HA:=ae hA
    have zN:=ae bW
    have vI:=ae eQ
    have Vx:=ae EH
    have HRN:=ae gW
    have HXF:=ae ZS
    have Rn:=ae Di
    clear hA bW eQ Zx WQ Cg gA ni EH gW ZS iJ Di
    go_wp2_with fail
    go_region
    all_goals
     obtain⟨w9,wu⟩:∃w9,w9=(gp wr w.heap.size (.bool false) (.int .i64 0) (.slice none 0 0) (.int .i64 X.far.1) (.slice fp nf fc)).drew:=⟨_,rfl⟩
     have nT:=wu
     unfold gp at nT
     rw[<-nT]
     have Cd:w9.heap[w.heap.size]?=some (.cells #[.bool false,.int .i64 0,.slice none 0 0,.int .i64 X.far.1,.slice fp nf fc] 31 (0,0)):=by rw[wu];exact fj Rn.out _ _ _ _ _
     have K9:aa (fun k=>k=w.heap.size) wr w9:=by rw[wu];exact(dB _ _ _ _ _ _ _).drew
     obtain⟨y0,y1,y2,y3,y4⟩:=bS Cd
     have X5:=av y0
     have WA:qC w9 w.heap.size (mY o.to) ((jx 0 0 0 o).tr.map nI) (cH o.ev).2 false 0 (.slice none 0 0) (.slice fp nf fc):=by
      rw[vI.out]
      refine⟨rfl,rfl,World.ownsRow_nil _ _ _ _,?_⟩
      have h1:=az zN.out K9 (fun k x y=>by have y':k=w.heap.size:=y;have:=(zN.out.lt k x).1;omega)
      rw[HNF.out]at h1 ⊢
      exact eY h1 (by omega)
     have Z4:=ae WA
     have HK9:Hid (aa (fun _=>False) w w9):=Vx.out.then K9 (fun k hk x=>by have x':k=w.heap.size:=x;omega)
     clear wu nT Cd K9 WA
     go_wp2
     refine bodyPost_ret (v:=.tuple #[.agg #[.bool false,.int .i64 0,.slice none 0 0,.int .i64 X.far.1,.slice fp nf fc],.int .i64 (X.rn:Int)]) (by simp[results,Tryz.results34,go_sem,y0,y1,y2,y3,y4]) rfl ⟨⟨false,0,none,fp,0,0,nf,fc,?_,Z4.out⟩,HK9.out⟩
     rw[HXF.out,HRN.out]
   | some t=>
    have iJ:X.ok=true:=by rw[HX.out];show o.to.isSome=true;rw[eQ];rfl
    rw[iJ]at x1 a0
    have yP:=Pz hG hs mE (Nat.zero_le _) HM.out eQ
    have GI:=sv (r:=0) (a:=0) (dp:=0) hR (su hR f) (by rw[NA.out];exact mE) (Nat.zero_le _) (by rw[NA.out];exact HM.out) eQ Cg (by unfold kA;simp only[List.length_nil];omega) (Nat.le_refl _)
    rw[Ur.out]at GI
    have VI:=ae GI
    have HA:Hid (wr.heap[ab]?=some (.cells #[.bool true,.int .i64 0,.slice none 0 0,.int .i64 X.far.1,.slice fp nf fc] 31 (0,0))):=by unfold Hid;rw[<-iJ];exact hA
    have zN:=ae bW
    have vI:=ae eQ
    have Vx:=ae EH
    have HRN:=ae gW
    have HXF:=ae ZS
    have Rn:=ae Di
    have W5:R.cb=w.heap.size+1:=by rw[NA.out]
    have HCB:=ae W5
    clear hA bW eQ Zx WQ Cg gA ni EH gW ZS iJ Di GI yP W5
    go_wp2_with fail
    refine VI.out.mono ?_
    intro e w5 EI
    have he5:=EI.res
    subst he5
    obtain⟨tv5,J1,EN⟩:=EI.st
    obtain⟨QX,QU,Yh⟩:=an J1.own
    obtain⟨TQ,SP⟩:∃n,n=(([]:List iN)++⟨0,0,(t:Int),0⟩ :: o.tr.map nI).length:=⟨_,rfl⟩
    rw[<-SP]at Yh
    have HNT:=ae SP
    clear SP
    subst Yh
    obtain⟨c5,gP⟩:=J1.st
    have hF5:=gP.fld.at_
    rw[Ur.out]at hF5
    obtain⟨_,_,_,z3⟩:=di hF5
    have pH:∀k,w2.heap.size<=k->¬(k=R.cb\/k=R.fb\/(Value.slice none 0 0).ownBlock=some k):=fun k hk x=>by
     rcases x with x | x | x
     ·omega
     ·omega
     ·cases x
    have Zo:w5.heap[ab]?=some (.cells #[.bool true,.int .i64 0,.slice none 0 0,.int .i64 X.far.1,.slice fp nf fc] 31 (0,0)):=EI.kept.blk HA.out (pH ab J6)
    have W8:ai w5 kb=some (.cells (cO (some X)).toArray 121 (0,0)):=bI HP.out.cl EI.kept (pH kb Xy)
    have Dg:w5.heap[w.heap.size]?=some (.cells #[.bool false,.int .i64 0,.slice none 0 0,.int .i64 0,.slice none 0 0] 31 (0,0)):=EI.kept.blk Rn.out (fun x=>by
     rcases x with x | x | x
     ·rw[HCB.out]at x;omega
     ·rw[Ur.out]at x;omega
     ·cases x)
    have gR:aa (fun _=>False) w w5:=Vx.out.then EI.kept (fun k hk x=>by
     rcases x with x | x | x
     ·rw[HCB.out]at x;omega
     ·rw[Ur.out]at x;omega
     ·cases x)
    have Qt:=az zN.out EI.kept (fun k x y=>pH k (zN.out.lt k x).1 y)
    obtain⟨w6,lZ⟩:∃w6,w6=(w5.setCell ⟨ab,1,none⟩ (.int .i64 (t:Int))).setCell ⟨ab,2,none⟩ (.slice QX TQ QU):=⟨_,rfl⟩
    have Us:aa (fun k=>k=ab) w5 w6:=by rw[lZ];exact((aa.refl (fun k=>k=ab) w5).setCell (p:=⟨ab,1,none⟩) (fun _=>rfl) _).setCell (p:=⟨ab,2,none⟩) (fun _=>rfl) _
    have hA6:w6.heap[ab]?=some (.cells #[.bool true,.int .i64 (t:Int),(.slice QX TQ QU),.int .i64 X.far.1,.slice fp nf fc] 31 (0,0)):=by
     rw[lZ]
     exact aj (aj Zo 1 _) 2 _
    obtain⟨b0,b1,b2,b3,b4⟩:=bS Zo
    have qcq:=av b0
    have qaw:∀j,w5.frozen? ⟨ab,j,none⟩=false:=fun j=>bh (show ai w5 ab=_ from Zo)
    have Od:¬w.heap.size+1+1=ab:=fun x=>by have:=Ur.out;omega
    have qb8:¬w.heap.size+2=ab:=fun x=>by have:=Ur.out;omega
    have VM:=ae J1
    have HO5:=ae EI
    have Uo:=ae gR
    have IN:=ae Qt
    have HA6:=ae hA6
    have Vz:=ae Us
    have W9:=bI W8 Us (fun x=>qax x.symm)
    obtain⟨v1,v2,v3,v45⟩:=gZ W9
    have OI:w6.heap[w.heap.size]?=_:=Us.blk Dg S1
    have qaf:=ae OI
    obtain⟨d0,d1,d2,d3,d4⟩:=bS hA6
    obtain⟨r0',r1',r2',r3',r4'⟩:=bS OI
    have qch:∀j,w6.frozen? ⟨w.heap.size,j,none⟩=false:=fun j=>bh (show ai w6 w.heap.size=_ from OI)
    have qcf:=av r0'
    clear J1 EI EN gP hF5 Zo W8 Dg gR Qt hA6 Us W9 OI r0 r1 r2 r3 r4 qby S2 x1 x2 x3 YV a0 a1 a2 a3 a4 kL uz iB W2 Qv VI
    go_upto_region 12 with fail
    rw[<-lZ]
    clear lZ z3 b0 b1 b2 b3 b4 qaw
    go_region
    all_goals
     obtain⟨w9,wu⟩:∃w9,w9=(gp w6 w.heap.size (.bool true) (.int .i64 (t:Int)) (.slice QX TQ QU) (.int .i64 X.far.1) (.slice fp nf fc)).drew:=⟨_,rfl⟩
     have nT:=wu
     unfold gp at nT
     rw[<-nT]
     have Cd:w9.heap[w.heap.size]?=some (.cells #[.bool true,.int .i64 (t:Int),(.slice QX TQ QU),.int .i64 X.far.1,.slice fp nf fc] 31 (0,0)):=by rw[wu];exact fj qaf.out _ _ _ _ _
     have K9:aa (fun k=>k=w.heap.size) w6 w9:=by rw[wu];exact(dB _ _ _ _ _ _ _).drew
     obtain⟨y0,y1,y2,y3,y4⟩:=bS Cd
     have X5:=av y0
     have Zg:aa (fun k=>k=ab\/k=w.heap.size) w5 w9:=(Vz.out.mono (fun _ _ x=>Or.inl x)).trans (K9.mono (fun _ _ x=>Or.inr x))
     have WA:qC w9 w.heap.size (mY o.to) ((jx 0 0 0 o).tr.map nI) (cH o.ev).2 true (t:Int) (.slice QX TQ QU) (.slice fp nf fc):=by
      have e1:(jx 0 0 0 o).tr.map nI=⟨0,0,(t:Int),0⟩ :: o.tr.map nI:=by
       unfold jx;rw[vI.out];rfl
      rw[vI.out,e1]
      have eW:¬((t:Int)=-1):=by omega
      refine⟨by show true=decide ((t:Int)≠-1);rw[decide_eq_true eW],by show (t:Int)=if (t:Int)=-1 then 0 else (t:Int);rw[if_neg eW],?_,?_⟩
      ·show w9.ownsRow w.heap.size 61 4 (.slice QX TQ QU) (if (t:Int)=-1 then [] else _).length ((if (t:Int)=-1 then [] else _).flatMap ig)
       rw[if_neg eW]
       have h1:=az VM.out.own Zg (fun k x y=>by
        have hk:=(VM.out.own.lt k x).1
        obtain⟨z,hz⟩:=ak VM.out.own x
        rcases y with y | y
        ·rw[y]at hz
         have h2:=Vz.out
         have h3:ai w5 ab=some (.cells #[.bool true,.int .i64 0,.slice none 0 0,.int .i64 X.far.1,.slice fp nf fc] 31 (0,0)):=HO5.out.kept.blk HA.out (pH ab J6)
         rw[h3]at hz;simp at hz
        ·omega)
       exact eY h1 (by omega)
      ·have h1:=az IN.out Zg (fun k x y=>by
        have hk:=(IN.out.lt k x).1
        obtain⟨z,hz⟩:=ak IN.out x
        rcases y with y | y
        ·rw[y]at hz
         have h3:ai w5 ab=some (.cells #[.bool true,.int .i64 0,.slice none 0 0,.int .i64 X.far.1,.slice fp nf fc] 31 (0,0)):=HO5.out.kept.blk HA.out (pH ab J6)
         rw[h3]at hz;simp at hz
        ·omega)
       rw[HNF.out]at h1 ⊢
       exact eY h1 (by omega)
     have Z4:=ae WA
     have HK9:Hid (aa (fun _=>False) w w9):=Uo.out.then Zg (fun k hk x=>by rcases x with x | x <;> omega)
     clear wu nT Cd K9 Zg WA
     go_wp2
     refine bodyPost_ret (v:=.tuple #[.agg #[.bool true,.int .i64 (t:Int),  .slice QX TQ QU,.int .i64 X.far.1,.slice fp nf fc],.int .i64 (X.rn:Int)]) (by simp[results,Tryz.results34,go_sem,y0,y1,y2,y3,y4]) rfl ⟨⟨true,t,QX,fp,_,QU,nf,fc,?_,Z4.out⟩,HK9.out⟩
     rw[HXF.out,HRN.out]
end Go.Proofs.YtagklnaaoclmhaaGreatDoor
namespace Go.Proofs.YtagklnaaoclmhaaGreatDoor
open Go.RowKit
theorem lS.kept3 {S:Nat->Prop}{w w':World}{base b:Nat}{s:ByteArray}{nv rv:Value}{U:Nat->Prop}{A:St}{rs:List Rl}(h:lS w base b s nv rv U A rs)(hk:aa S w w')
  (hs:∀k c e,S k->ai w k=some (.cells c e (0,0))->e≠90/\e≠179/\e≠132/\e≠3):lS w' base b s nv rv U A rs:=by
 obtain⟨y,hy⟩:=h.rg.gis.obj
 refine⟨?_,az h.ru hk (fun k e x=>by obtain⟨z,hz⟩:=ak h.ru e;exact(hs k z _ x hz).2.2.1 rfl)⟩
 exact h.rg.turn hk (g:=A.sc) (h.rg.gis.kept hk (fun x=>(hs _ y _ x hy).1 rfl)) (fun k e x=>by obtain⟨z,hz⟩:=h.rg.nvb e;exact(hs k z _ x hz).2.1 rfl) (fun k c _ ho x=>(hs k c _ x ho).2.2.2 rfl)
def ji (w:World)(xb pb gb:Nat)(c:Cf)(ln rn:Int):Prop:=w.heap[xb]?=some (.cells #[.pointer (some ⟨pb,0,none⟩),.pointer (some ⟨gb,0,none⟩),.int .i64 (c.pol:Int),.int .i64 (c.bud:Int),.int .i64 (c.mask:Int),.int .i64 (c.runs:Int),.int .i64 ln,.int .i64 rn] 85 (0,0))
theorem fg {w:World}{q t:Nat}{a b c d e f g h:Value}(hq:w.heap[q]?=some (.cells #[a,b,c,d,e,f,g,h] t (0,0))):w.cell? ⟨q,0,none⟩=some a/\w.cell? ⟨q,1,none⟩=some b/\w.cell? ⟨q,2,none⟩=some c/\w.cell? ⟨q,3,none⟩=some d/\w.cell? ⟨q,4,none⟩=some e/\w.cell? ⟨q,5,none⟩=some f/\w.cell? ⟨q,6,none⟩=some g/\w.cell? ⟨q,7,none⟩=some h:=by
 refine⟨?_,?_,?_,?_,?_,?_,?_,?_⟩ <;> simp[World.cell?,hq]
structure vJ (w:World)(xb:Nat)(G:ByteArray)(c:Cf)(ln rn:Int)(a b d e nb:Nat):Prop where
 ex:∃pb gb base,ji w xb pb gb c ln rn/\s7 w pb G c base a b d e/\nb<=pb/\∃b0 nv rv U,lS w b0 gb G nv rv U (aq G).1 (aq G).2
structure LoO (G:ByteArray)(p b m r:Int)(w:World)(e:Ending)(w':World):Prop where
 kept:aa (fun _=>False) w w'
 no:¬((dj G).1=0/\tF p b m r)->e=.returned (.tuple #[.pointer none,.bool true])
 ok:(dj G).1=0->tF p b m r->∃xb,e=.returned (.tuple #[.pointer (some ⟨xb,0,none⟩),.bool true])/\w.heap.size<=xb/\vJ w' xb G ⟨p.toNat,b.toNat,m.toNat,r.toNat⟩ (-1) 0 0 0 0 0 w.heap.size
theorem A8 (G:ByteArray)(hm:G.size<=maxLen)(p b m r:Int)(w:World):
  Calls Tryz.prog 11 #[.string G,.agg #[.int .i64 p,.int .i64 b,.int .i64 m,.int .i64 r]] w fun e w'=>LoO G p b m r w e w':=by
 obtain⟨w1,dZ⟩:∃w1,w1=w.alloc (.cells #[.int .i64 p,.int .i64 b,.int .i64 m,.int .i64 r] 23):=⟨_,rfl⟩
 have K1:aa (fun _=>False) w w1:=by rw[dZ];exact(aa.refl _ w).alloc _
 have dE:w1.heap[w.heap.size]?=some (.cells #[.int .i64 p,.int .i64 b,.int .i64 m,.int .i64 r] 23 (0,0)):=by rw[dZ];exact heap_alloc_new _ _
 have HB1:=ae dE
 have jE:=ae K1
 clear dE K1
 have SE:∀w':World,aa (fun _=>False) w1 w'->w'.cell? ⟨w.heap.size,0,none⟩=some (.int .i64 p)/\w'.cell? ⟨w.heap.size,1,none⟩=some (.int .i64 b)/\w'.cell? ⟨w.heap.size,2,none⟩=some (.int .i64 m)/\w'.cell? ⟨w.heap.size,3,none⟩=some (.int .i64 r):=fun w' K=>di (K.blk HB1.out (fun x=>x))
 go_enter Tryz.func11,Tryz.ntmps11
 go_wp2_with fail
 rw[<-dZ]
 clear dZ
 refine(Lx G hm p b m r w1).mono ?_
 intro e w2 hZ
 have K2:=hZ.kept
 have Up:=ae SE
 by_cases hC:(dj G).1=0
 ·by_cases kf:tF p b m r
  ·obtain⟨pb,he,hP⟩:=hZ.ok hC kf
   subst he
   go_wp2_with fail
   refine(lr G w2 hm).mono ?_
   intro e w3 hR
   obtain⟨Gx,nv,rv,U,hD⟩:=hR.ok hC
   rw[hC]at Gx
   subst Gx
   have K3:=hR.kept
   have IR:=K2.trans K3
   obtain⟨l0,l1,l2,l3⟩:=Up.out w3 IR
   have fS:=jk p b m r w3
   rw[decide_eq_true kf]at fS
   obtain⟨gb,mA⟩:∃gb,gb=w2.heap.size:=⟨_,rfl⟩
   rw[<-mA]at hD ⊢
   have HP:=ae hP
   have HD:=ae hD
   have FY:=ae IR
   have zE:=ae K3
   have Y4:=ae kf
   have Vu:=ae fS
   have HC:=ae hC
   clear hZ hR hP hD K2 K3 IR fS kf mA hC SE
   go_wp2_with fail
   refine Vu.out.mono ?_
   rintro e w4 ⟨rfl,K4⟩
   obtain⟨q0,q1,q2,q3⟩:=Up.out w4 (FY.out.trans K4)
   have hql:=av q0
   have B6:=ae K4
   clear l0 l1 l2 l3 K4
   go_wp2
   go_ret2
   have h1:=Y4.out
   unfold tF at h1
   have K5:aa (fun _=>False) w4 (w4.alloc (.cells #[.pointer (some ⟨pb,0,none⟩),.pointer (some ⟨gb,0,none⟩),.int .i64 p,.int .i64 b,.int .i64 m,.int .i64 r,.int .i64 (-1),.int .i64 0] 85)):=(aa.refl _ w4).alloc _
   have Kw:aa (fun _=>False) w w4:=(jE.out.trans FY.out).trans B6.out
   refine⟨Kw.trans K5,fun x=>absurd ⟨HC.out,Y4.out⟩ x,fun _ _=>⟨w4.heap.size,rfl,Kw.size,⟨pb,gb,_,?_,((HP.out.same zE.out).same B6.out).same K5,Nat.le_trans jE.out.size HP.out.low,_,nv,rv,U,((HD.out.kept3 B6.out (fun _ _ _ x=>x.elim)).kept3 K5 (fun _ _ _ x=>x.elim))⟩⟩⟩
   unfold ji
   dsimp only
   rw[Int.toNat_of_nonneg h1.1.1,Int.toNat_of_nonneg h1.2.1.1,Int.toNat_of_nonneg h1.2.2.1.1,Int.toNat_of_nonneg (by omega)]
   exact heap_alloc_new _ _
  ·have he:=hZ.cfg hC kf
   subst he
   go_wp2_with fail
   refine(lr G w2 hm).mono ?_
   intro e w3 hR
   obtain⟨Gx,nv,rv,U,hD⟩:=hR.ok hC
   rw[hC]at Gx
   subst Gx
   have IR:=K2.trans hR.kept
   obtain⟨l0,l1,l2,l3⟩:=Up.out w3 IR
   have fS:=jk p b m r w3
   rw[decide_eq_false kf]at fS
   have FY:=ae IR
   have Y4:=ae kf
   have Vu:=ae fS
   clear hZ hR hD K2 IR fS kf SE
   go_wp2_with fail
   refine Vu.out.mono ?_
   rintro e w4 ⟨rfl,K4⟩
   have B6:=ae K4
   clear l0 l1 l2 l3 K4
   go_wp2
   go_ret2
   exact⟨(jE.out.trans FY.out).trans B6.out,fun _=>rfl,fun _ x=>absurd x Y4.out⟩
 ·have he:=hZ.bad hC
  have HC:=ae hC
  obtain⟨C,hCe⟩:∃C,C=(dj G).1:=⟨_,rfl⟩
  rw[<-hCe]at he hC
  have hCb:(C == 0)=false:=by simpa using hC
  have hCn:(C != 0)=true:=by simpa using hC
  have HCe:=ae hCe
  clear hCe
  subst he
  go_wp2_with fail
  refine(lr G w2 hm).mono ?_
  intro e w3 hR
  have Gx:=hR.bad HC.out
  rw[<-HCe.out]at Gx
  subst Gx
  have IR:=K2.trans hR.kept
  obtain⟨l0,l1,l2,l3⟩:=Up.out w3 IR
  have fS:=jk p b m r w3
  have FY:=ae IR
  have Vu:=ae fS
  clear hZ hR K2 IR fS SE
  go_wp2_with fail
  refine Vu.out.mono ?_
  rintro e w4 ⟨rfl,K4⟩
  have B6:=ae K4
  clear l0 l1 l2 l3 K4
  go_wp2
  go_ret2
  exact⟨(jE.out.trans FY.out).trans B6.out,fun _=>rfl,fun x=>absurd x HC.out⟩
end Go.Proofs.YtagklnaaoclmhaaGreatDoor
