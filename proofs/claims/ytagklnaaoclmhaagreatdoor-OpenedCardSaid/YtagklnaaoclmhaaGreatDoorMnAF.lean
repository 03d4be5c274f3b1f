import Derived.Test.YtagklnaaoclmhaaGreatDoorMnAE
import Derived.Defers
set_option linter.unusedSimpArgs false
set_option linter.unusedVariables false
set_option maxRecDepth 100000
set_option maxHeartbeats 16000000
namespace Go.Proofs.YtagklnaaoclmhaaGreatDoor
open Go.RowKit
def dK (w:World)(x:Nat):B5:=
 match w.heap[x]? with
 | some (.cells c t _)=>⟨c.getD 0 undef,c.getD 1 undef,c.getD 2 undef,c.getD 5 undef,t⟩
 | _=>⟨undef,undef,undef,undef,0⟩
theorem kq {w:World}{x t:Nat}{a0 a1 a2 a3 a4 a5:Value}(h:w.heap[x]?=some (.cells #[a0,a1,a2,a3,a4,a5] t (0,0))):dK w x=⟨a0,a1,a2,a5,t⟩:=by
 simp[dK,h]
def d8 (w:World)(b:Nat)(k:Ky)(rb:Nat):Prop:=∃v3 v4,w.heap[b]?=some (.cells #[.int .i64 (k.inp:Int),.int .i64 (k.rule:Int),.int .i64 (k.place:Int),v3,v4,aw rb] 280 (0,0))
theorem d8.same {w w':World}{b rb:Nat}{k:Ky}(h:d8 w b k rb)(he:w'.heap[b]?=w.heap[b]?):d8 w' b k rb:=by
 obtain⟨v3,v4,h⟩:=h
 exact⟨v3,v4,by rw[he];exact h⟩
theorem d8.lt {w:World}{b rb:Nat}{k:Ky}(h:d8 w b k rb):b<w.heap.size:=by
 obtain⟨v3,v4,h⟩:=h
 exact ag (show ai w b=_ from h)
theorem d8.cel {w:World}{b rb:Nat}{k:Ky}(h:d8 w b k rb):dK w b=⟨.int .i64 (k.inp:Int),.int .i64 (k.rule:Int),.int .i64 (k.place:Int),aw rb,280⟩:=by
 obtain⟨v3,v4,h⟩:=h
 exact kq h
structure im (w:World)(b0 ob bud:Nat)(EL:List (Ky × Nat))(ks:List Ky):Prop where
 ex:∃OL:List (Ky × Nat),OL.Perm EL/\OL.map (·.1)=ks/\jj w (dK w) ob (OL.map (·.2))
 free:∃fr:Nat,fr+EL.length=bud/\dK w ob=⟨.int .i64 0,.int .i64 0,.int .i64 0,.int .i64 (fr:Int),275⟩
 low:b0<=ob
def YH (EL:List (Ky × Nat))(p:Option Ky):Value:=mS (p.bind fun k=>(m9 EL k 0).map (·.2))
structure tG (w:World)(b0 db bud nr:Nat)(EL:List (Ky × Nat))(pl:List (Option Ky)):Prop where
 blk:∃pb,b0<=pb/\w.heap[db]?=some (.cells #[.slice (some ⟨pb,0,none⟩) bud bud,.int .i64 (nr:Int)] 270 (0,0))/\w.heap[pb]?=some (.cells (pl.map (YH EL)).toArray 271 (0,0))
 len:pl.length=bud
 at_:∀e∈EL,pl.getD (kN nr e.1%bud) none=some e.1
 is_:∀p k,pl[p]?=some (some k)->kN nr k%bud=p/\∃b,(k,b)∈EL
 low:b0<=db
def iU (C:Mc)(ob:Nat):Value:=if C.pol=1 then .iface 219 (aw ob) else if C.pol=2 then .iface 221 (aw ob) else .nilIface
structure Rv (C:Mc):Prop where
 pol:C.pol=0/\C.mask=0\/(C.pol=1\/C.pol=2)/\0<C.bud
 bud:C.bud<=1000
 mask:C.mask<=255
 nr:C.nr<=8
structure iF (w:World)(b0 mb eb ob:Nat)(EL:List (Ky × Nat))(C:Mc)(R:Nat->Rs->Prop)(M:Ms):Prop where
 ok:Rv C
 blk:w.heap[mb]?=some (.cells #[.int .i64 (C.mask:Int),iU C ob,.int .i32 0,.int .u32 0,.map (some eb),.int .i64 (M.hits:Int)] 218 (0,0))
 map:ei w eb EL
 keys:EL.map (·.1)=M.ent.map (·.1)
 nd:(EL.map (·.1)).Nodup
 in_:∀e∈EL,sB e.1
 ent:∀i (h:i<EL.length) (h':i<M.ent.length),∃rb,d8 w EL[i].2 EL[i].1 rb/\R rb M.ent[i].2
 low:b0<=mb/\b0<=eb/\∀e∈EL,b0<=e.2
 no0:C.pol=0->EL=[]
 dir:C.pol=1->tG w b0 ob C.bud C.nr EL M.plc
 old:C.pol=2->im w b0 ob C.bud EL M.ord
 hits:M.hits<=100000
def Mw (b0:Nat)(w:World)(k:Nat):Prop:=b0<=k/\∀c t f,w.heap[k]?=some (.cells c t f)->t=218\/t=280\/t=275\/t=270\/t=271
theorem ub:∀(EL:List (Ky × Nat)) (L:List (Ky × Rs)) (k:Ky) (i:Nat),EL.map (·.1)=L.map (·.1)->m9 EL k i=none->oC L k=none
 | [],[],_,_,_,_=>rfl
 | [],_ :: _,_,_,h,_=>by simp at h
 | _ :: _,[],_,_,h,_=>by simp at h
 | e :: EL,x :: L,k,i,h,hn=>by
  simp only[List.map_cons,List.cons.injEq]at h
  rw[m9]at hn
  split at hn
  ·cases hn
  ·next eW=>
   have:=ub EL L k (i+1) h.2 hn
   unfold oC at this ⊢
   rw[List.find?_cons_of_neg (by simp;rw[<-h.1];exact fun e=>eW e.symm)]
   exact this
theorem uc:∀(EL:List (Ky × Nat)) (L:List (Ky × Rs)) (k:Ky) (i j b:Nat),EL.map (·.1)=L.map (·.1)->m9 EL k i=some (j,b)->∃q,j=i+q/\∃(h1:q<EL.length) (h2:q<L.length),EL[q]=(k,b)/\oC L k=some L[q].2
 | [],_,_,_,_,_,_,hn=>by cases hn
 | _ :: _,[],_,_,_,_,h,_=>by simp at h
 | e :: EL,x :: L,k,i,j,b,h,hn=>by
  simp only[List.map_cons,List.cons.injEq]at h
  rw[m9]at hn
  split at hn
  ·next he=>
   cases hn
   refine⟨0,rfl,by simp,by simp,?_,?_⟩
   ·simp[he]
   ·unfold oC
    rw[List.find?_cons_of_pos (by simp;rw[<-h.1,he])]
    rfl
  ·next eW=>
   obtain⟨q,h1,h2,h3,h4,h5⟩:=uc EL L k (i+1) j b h.2 hn
   refine⟨q+1,by omega,by simp;omega,by simp;omega,by simpa using h4,?_⟩
   unfold oC at h5 ⊢
   rw[List.find?_cons_of_neg (by simp;rw[<-h.1];exact fun e=>eW e.symm),h5]
   simp
theorem qJ.cel {w:World}{A:Nat->B5}{od nw:Nat->Nat}{x:Nat}(h:qJ w A od nw x):dK w x=A x:=by
 unfold qJ at h
 rw[kq h]
theorem uV {w w':World}{ob:Nat}{l:List Nat}(hr:jj w' (dK w) ob l):∀x∈ob :: l,dK w' x=dK w x:=by
 obtain⟨od,nw,h,hl⟩:=hr
 exact fun x hx=>(hl x hx).cel
theorem xN {w w':World}{ob:Nat}{l:List Nat}(hr:jj w' (dK w) ob l):jj w' (dK w') ob l:=
 hr.congr (uV hr) (fun _ _=>rfl)
theorem FF {w w':World}{ob:Nat}{l:List Nat}(hr:jj w' (dK w) ob l)(hk:aa (fun k=>k∈ob :: l) w w'){b rb:Nat}{k:Ky}(h:d8 w b k rb):d8 w' b k rb:=by
 by_cases hb:b∈ob :: l
 ·obtain⟨od,nw,_,hl⟩:=hr
  have h1:=hl b hb
  unfold qJ at h1
  rw[h.cel]at h1
  exact⟨_,_,h1⟩
 ·exact h.same (hk.block b h.lt hb)
structure V4 (b0 ob bud:Nat)(EL:List (Ky × Nat))(ks:List Ky)(w:World)(e:Ending)(w':World):Prop where
 res:e=.returned (.tuple #[])
 old:im w' b0 ob bud EL ks
 en:∀b k rb,d8 w b k rb->d8 w' b k rb
 kept:aa (fun j=>j=ob\/∃x∈EL,x.2=j) w w'
theorem BV {b0 ob bud:Nat}{EL:List (Ky × Nat)}{ks:List Ky}{w:World}(h:im w b0 ob bud EL ks)(ts:(EL.map (·.1)).Nodup){k:Ky}{b:Nat}(hb:(k,b)∈EL):
  Calls Tryz.prog 240 #[aw ob,aw b] w fun e w'=>V4 b0 ob bud EL (k :: ks.erase k) w e w':=by
 obtain⟨OL,hp,eZ,hr⟩:=h.ex
 obtain⟨fr,Kl,kf⟩:=h.free
 obtain⟨l1,l2,rfl⟩:=List.append_of_mem (hp.symm.subset hb)
 rw[List.map_append,List.map_cons]at hr
 refine(Mq (dK w) ob b (l1.map (·.2)) (l2.map (·.2)) w hr).mono ?_
 rintro e w' ⟨rfl,tt,fU⟩
 have XB:ks.erase k=(l1++l2).map (·.1):=by
  have hn:((l1++(k,b) :: l2).map (·.1)).Nodup:=(hp.map (·.1)).nodup_iff.2 ts
  rw[<-eZ]
  rw[List.map_append,List.map_cons]at hn ⊢
  rw[List.nodup_append]at hn
  rw[List.erase_append_right _ (fun hx=>hn.2.2 k hx k (by simp) rfl)]
  simp
 refine⟨rfl,⟨⟨(k,b) :: (l1++l2),?_,?_,?_⟩,⟨fr,Kl,?_⟩,h.low⟩,fun b k rb h=>FF tt fU h,fU.mono (fun j _ hj=>?_)⟩
 ·exact List.perm_middle.symm.trans hp
 ·rw[List.map_cons,XB]
 ·have:=xN tt
  simpa using this
 ·rw[uV tt ob (by simp)];exact kf
 ·rcases List.mem_cons.1 hj with e | e
  ·exact .inl e
  ·right
   have:j∈((l1++(k,b) :: l2).map (·.2)):=by
    simp only[List.mem_cons,List.mem_append,List.map_append,List.map_cons]at e ⊢
    rcases e with e | e | e
    ·exact .inr (.inl e)
    ·exact .inl e
    ·exact .inr (.inr e)
   obtain⟨x,hx,rfl⟩:=List.mem_map.1 this
   exact⟨x,hp.subset hx,rfl⟩
structure Vj (b0 ob bud:Nat)(EL:List (Ky × Nat))(ks:List Ky)(k:Ky)(b:Nat)(w:World)(e:Ending)(w':World):Prop where
 en:∀b k rb,d8 w b k rb->d8 w' b k rb
 kept:aa (fun j=>j=ob\/j=b\/∃x∈EL,x.2=j) w w'
 free:EL.length<bud->e=.returned (.pointer none)/\im w' b0 ob bud (EL++[(k,b)]) (k :: ks)
 full:EL.length=bud->∃g gb,ks.getLast?=some g/\(g,gb)∈EL/\e=.returned (aw gb)/\∀EL',EL'.Perm ((EL.erase (g,gb))++[(k,b)])->im w' b0 ob bud EL' (k :: ks.dropLast)
theorem IX {b0 ob bud:Nat}{EL:List (Ky × Nat)}{ks:List Ky}{w:World}(h:im w b0 ob bud EL ks)(sP:0<bud)(hbud2:bud<=1000){k:Ky}{b rb:Nat}(yD:d8 w b k rb)(kh:b ∉ EL.map (·.2))(sO:b≠ob):
  Calls Tryz.prog 238 #[aw ob,aw b] w fun e w'=>Vj b0 ob bud EL ks k b w e w':=by
 obtain⟨OL,hp,eZ,hr⟩:=h.ex
 obtain⟨fr,Kl,kf⟩:=h.free
 obtain⟨v3,v4,hB⟩:=yD
 have hc:=kq hB
 have Ir:b ∉ ob :: OL.map (·.2):=by
  intro hx
  rcases List.mem_cons.1 hx with e | e
  ·exact sO e
  ·exact kh ((hp.map (·.2)).subset e)
 have eP:∀j,j∈ob :: b :: OL.map (·.2)->(j=ob\/j=b\/∃x∈EL,x.2=j):=by
  intro j hj
  rcases List.mem_cons.1 hj with e | e
  ·exact .inl e
  ·rcases List.mem_cons.1 e with e | e
   ·exact .inr (.inl e)
   ·obtain⟨x,hx,rfl⟩:=List.mem_map.1 e
    exact .inr (.inr ⟨x,hp.subset hx,rfl⟩)
 cases fr with
 | succ fr=>
  refine(F4 (dK w) ob b fr _ w hr Ir v3 v4 (by rw[hc];exact hB) (by rw[kf]) (by omega)).mono ?_
  rintro e w' ⟨rfl,tt,fU⟩
  have sQ:∀x∈ob :: b :: OL.map (·.2),x≠ob->dK w' x=dK w x:=by
   intro x hx eW
   obtain⟨od,nw,_,hl⟩:=tt
   have:=(hl x hx).cel
   simpa [eW] using this
  have Sh:dK w' ob=⟨.int .i64 0,.int .i64 0,.int .i64 0,.int .i64 (fr:Int),275⟩:=by
   obtain⟨od,nw,_,hl⟩:=tt
   have:=(hl ob (by simp)).cel
   simpa [kf] using this
  refine⟨fun b' k' rb' h'=>?_,fU.mono (fun j _ hj=>eP j hj),fun _=>⟨rfl,⟨⟨(k,b) :: OL,?_,by simp[eZ],?_⟩,⟨fr,by simp;omega,Sh⟩,h.low⟩⟩,fun hx=>absurd hx (by omega)⟩
  ·by_cases hx:b'∈ob :: b :: OL.map (·.2)
   ·have eW:b'≠ob:=by
     intro e
     rw[e]at h'
     rw[h'.cel]at kf
     simp at kf
    obtain⟨od,nw,_,hl⟩:=tt
    have h1:=hl b' hx
    unfold qJ at h1
    simp only[eW,if_false]at h1
    rw[h'.cel]at h1
    exact⟨_,_,h1⟩
   ·exact h'.same (fU.block b' h'.lt hx)
  ·exact((List.Perm.cons _ hp).trans (List.perm_append_comm (l₁:=[(k,b)]) (l₂:=EL)))
  ·refine(tt.congr (A':=dK w') (fun x hx=>?_) (fun _ _=>rfl))
   by_cases eW:x=ob
   ·subst eW
    simp[Sh,kf]
   ·simp only[eW,if_false]
    exact sQ x hx eW
 | zero=>
  have eW:OL≠[]:=by
   intro e
   have:=hp.length_eq
   rw[e]at this
   simp at this
   omega
  obtain⟨Zj,⟨g,gb⟩,rfl⟩:∃l x,OL=l++[x]:=⟨OL.dropLast,OL.getLast eW,(List.dropLast_concat_getLast eW).symm⟩
  rw[List.map_append,List.map_cons,List.map_nil]at hr Ir
  refine(F5 (dK w) ob b gb _ w hr Ir v3 v4 (by rw[hc];exact hB) (by rw[kf];rfl)).mono ?_
  rintro e w' ⟨rfl,tt,fU⟩
  refine⟨fun b' k' rb' h'=>?_,fU.mono (fun j _ hj=>eP j ?_),fun hx=>absurd hx (by omega),fun _=>⟨g,gb,?_,hp.subset (by simp),rfl,fun EL' zM=>⟨⟨(k,b) :: Zj,?_,?_,?_⟩,⟨0,?_,?_⟩,h.low⟩⟩⟩
  ·exact FF tt fU h'
  ·simp at hj ⊢
   rcases hj with e | e | e
   ·exact .inl e
   ·exact .inr (.inl e)
   ·exact .inr (.inr (.inl e))
  ·rw[<-eZ];simp
  ·refine List.Perm.trans ?_ zM.symm
   refine List.Perm.trans ?_ (List.perm_append_comm (l₁:=[(k,b)]) (l₂:=EL.erase (g,gb)))
   refine List.Perm.cons _ ?_
   have h1:(Zj++[(g,gb)]).Perm ((g,gb) :: Zj):=List.perm_append_comm (l₁:=Zj) (l₂:=[(g,gb)])
   have h2:=(h1.symm.trans hp).erase (g,gb)
   simpa using h2
  ·rw[<-eZ];simp
  ·have:=xN tt
   simpa using this
  ·have h1:=zM.length_eq
   have h2:=hp.length_eq
   have h3:(g,gb)∈EL:=hp.subset (by simp)
   rw[List.length_append,List.length_erase_of_mem h3]at h1
   have:=List.length_pos_of_mem h3
   simp at h1
   omega
  ·rw[uV tt ob (by simp)];exact kf
end Go.Proofs.YtagklnaaoclmhaaGreatDoor
namespace Go.Proofs.YtagklnaaoclmhaaGreatDoor
open Go.RowKit Go.MuLone
theorem jj.kept {w w':World}{ob:Nat}{l:List Nat}(h:jj w (dK w) ob l)(hw:∀x∈ob :: l,w'.heap[x]?=w.heap[x]?):jj w' (dK w') ob l:=
 h.congr (fun x hx=>by unfold dK;rw[hw x hx]) hw
theorem jj.lt {w:World}{A:Nat->B5}{ob:Nat}{l:List Nat}(h:jj w A ob l):∀x∈ob :: l,x<w.heap.size:=by
 obtain⟨od,nw,_,hl⟩:=h
 exact fun x hx=>ag (show ai w x=_ from hl x hx)
theorem im.kept {S:Nat->Prop}{w w':World}{b0 ob bud:Nat}{EL:List (Ky × Nat)}{ks:List Ky}(h:im w b0 ob bud EL ks)(hk:aa S w w')(h1:¬S ob)(h2:∀e∈EL,¬S e.2):im w' b0 ob bud EL ks:=by
 obtain⟨OL,hp,eZ,hr⟩:=h.ex
 have hw:∀x∈ob :: OL.map (·.2),w'.heap[x]?=w.heap[x]?:=by
  intro x hx
  refine hk.block x (hr.lt x hx) ?_
  rcases List.mem_cons.1 hx with e | e
  ·rw[e];exact h1
  ·obtain⟨y,hy,rfl⟩:=List.mem_map.1 e
   exact h2 y (hp.subset hy)
 obtain⟨fr,Kl,kf⟩:=h.free
 exact⟨⟨OL,hp,eZ,hr.kept hw⟩,⟨fr,Kl,by unfold dK at kf ⊢;rw[hw ob (by simp)];exact kf⟩,h.low⟩
theorem im.ob_lt {w:World}{b0 ob bud:Nat}{EL:List (Ky × Nat)}{ks:List Ky}(h:im w b0 ob bud EL ks):ob<w.heap.size:=by
 obtain⟨OL,hp,eZ,hr⟩:=h.ex
 exact hr.lt ob (by simp)
theorem tG.kept {S:Nat->Prop}{w w':World}{b0 db bud nr:Nat}{EL:List (Ky × Nat)}{pl:List (Option Ky)}(h:tG w b0 db bud nr EL pl)(hk:aa S w w')(h1:∀j c t f,w.heap[j]?=some (.cells c t f)->(t=270\/t=271)->¬S j):tG w' b0 db bud nr EL pl:=by
 obtain⟨pb,h2,h3,h4⟩:=h.blk
 refine⟨⟨pb,h2,?_,?_⟩,h.len,h.at_,h.is_,h.low⟩
 ·rw[hk.block db (ag (show ai w db=_ from h3)) (h1 _ _ _ _ h3 (.inl rfl))];exact h3
 ·rw[hk.block pb (ag (show ai w pb=_ from h4)) (h1 _ _ _ _ h4 (.inr rfl))];exact h4
theorem iF.same {w w':World}{b0 mb eb ob:Nat}{EL:List (Ky × Nat)}{C:Mc}{R:Nat->Rs->Prop}{M:Ms}(h:iF w b0 mb eb ob EL C R M)(hk:aa (fun _=>False) w w'):iF w' b0 mb eb ob EL C R M:=by
 refine⟨h.ok,?_,h.map.same (hk.block eb h.map.lt (fun x=>x)),h.keys,h.nd,h.in_,fun i hi eM=>?_,h.low,h.no0,fun hp=>(h.dir hp).kept hk (fun _ _ _ _ _ _ x=>x),fun hp=>(h.old hp).kept hk (fun x=>x) (fun _ _ x=>x),h.hits⟩
 ·rw[hk.block mb (ag (show ai w mb=_ from h.blk)) (fun x=>x)];exact h.blk
 ·obtain⟨rb,h1,h2⟩:=h.ent i hi eM
  exact⟨rb,h1.same (hk.block _ h1.lt (fun x=>x)),h2⟩
theorem LK {w W:World}{mb:Nat}{c:Array Value}{t:Nat}(hb:w.heap[mb]?=some (.cells c t (0,0)))(hW:W.heap[mb]?=some (.cells (c.setIfInBounds 2 (.int .i32 1)) t (0,0)))(hc:c[2]?=some (.int .i32 0))(hk:aa (·=mb) w W):aa (fun _=>False) w (W.setCell ⟨mb,2,none⟩ (.int .i32 0)):=by
 have h1:=hk.setCell (p:=⟨mb,2,none⟩) (fun _=>rfl) (.int .i32 0)
 refine⟨h1.os,h1.tape,h1.output,h1.size,fun i hi _=>?_⟩
 by_cases Iw:i=mb
 ·subst Iw
  rw[aj hW,hb]
  congr 2
  apply Array.ext'
  simp only[Array.toList_setIfInBounds,List.set_set]
  have hl:2<c.size:=by
   rcases Nat.lt_or_ge 2 c.size with h | h
   ·exact h
   ·rw[Array.getElem?_eq_none h]at hc;cases hc
  have:c.toList[2]?=some (.int .i32 0):=by simpa using hc
  have h2:c.toList[2]'(by simpa using hl)=.int .i32 0:=by
   rw[List.getElem?_eq_getElem (by simpa using hl)]at this
   exact Option.some.inj this
  rw[<-h2]
  exact List.set_getElem_self _
 ·exact h1.block i hi Iw
theorem im.ty {w:World}{b0 ob bud:Nat}{EL:List (Ky × Nat)}{ks:List Ky}(h:im w b0 ob bud EL ks):∃c,w.heap[ob]?=some (.cells c 275 (0,0)):=by
 obtain⟨OL,hp,eZ,od,nw,hr,hl⟩:=h.ex
 obtain⟨fr,Kl,kf⟩:=h.free
 have:=hl ob (by simp)
 unfold qJ at this
 rw[kf]at this
 exact⟨_,this⟩
theorem iF.en_at {w:World}{b0 mb eb ob:Nat}{EL:List (Ky × Nat)}{C:Mc}{R:Nat->Rs->Prop}{M:Ms}(h:iF w b0 mb eb ob EL C R M){x:Ky × Nat}(hx:x∈EL):∃rb,d8 w x.2 x.1 rb:=by
 obtain⟨i,hi,rfl⟩:=List.getElem_of_mem hx
 obtain⟨rb,h1,_⟩:=h.ent i hi (by have:=congrArg List.length h.keys;simp at this;omega)
 exact⟨rb,h1⟩
theorem iF.mw {w:World}{b0 mb eb ob:Nat}{EL:List (Ky × Nat)}{C:Mc}{R:Nat->Rs->Prop}{M:Ms}(h:iF w b0 mb eb ob EL C R M){j:Nat}(hj:j=mb\/j=ob/\C.pol≠0\/∃x∈EL,x.2=j):Mw b0 w j:=by
 rcases hj with rfl | ⟨rfl,hp⟩ | ⟨x,hx,rfl⟩
 ·exact⟨h.low.1,fun c t f hc=>by rw[h.blk]at hc;simp at hc;exact .inl hc.2.1.symm⟩
 ·rcases(h.ok.pol.resolve_left (fun e=>hp e.1)).1 with hp | hp
  ·obtain⟨pb,_,h2,_⟩:=(h.dir hp).blk
   exact⟨(h.dir hp).low,fun c t f hc=>by rw[h2]at hc;simp at hc;exact .inr (.inr (.inr (.inl hc.2.1.symm)))⟩
  ·obtain⟨c0,h2⟩:=(h.old hp).ty
   exact⟨(h.old hp).low,fun c t f hc=>by rw[h2]at hc;simp at hc;exact .inr (.inr (.inl hc.2.1.symm))⟩
 ·obtain⟨rb,v3,v4,h2⟩:=h.en_at hx
  exact⟨h.low.2.2 x hx,fun c t f hc=>by rw[h2]at hc;simp at hc;exact .inr (.inl hc.2.1.symm)⟩
theorem iF.apart {w:World}{b0 mb eb ob:Nat}{EL:List (Ky × Nat)}{C:Mc}{R:Nat->Rs->Prop}{M:Ms}(h:iF w b0 mb eb ob EL C R M):eb≠mb/\(C.pol≠0->ob≠mb/\ob≠eb)/\∀x∈EL,x.2≠mb/\x.2≠eb/\(C.pol≠0->x.2≠ob):=by
 have hb:=h.blk
 obtain⟨es,cl,hm,_⟩:=h.map
 have og:C.pol≠0->∃c t,w.heap[ob]?=some (.cells c t (0,0))/\(t=270\/t=275):=by
  intro hp
  rcases(h.ok.pol.resolve_left (fun e=>hp e.1)).1 with hp | hp
  ·obtain⟨pb,_,h2,_⟩:=(h.dir hp).blk
   exact⟨_,_,h2,.inl rfl⟩
  ·obtain⟨c0,h2⟩:=(h.old hp).ty
   exact⟨_,_,h2,.inr rfl⟩
 refine⟨fun e=>?_,fun hp=>⟨fun e=>?_,fun e=>?_⟩,fun x hx=>⟨fun e=>?_,fun e=>?_,fun hp e=>?_⟩⟩
 ·rw[e,hb]at hm;simp at hm
 ·obtain⟨c,t,h2,h3⟩:=og hp
  rw[e,hb]at h2
  rcases h3 with rfl | rfl <;> simp at h2
 ·obtain⟨c,t,h2,h3⟩:=og hp
  rw[e,hm]at h2;simp at h2
 ·obtain⟨rb,v3,v4,h2⟩:=h.en_at hx
  rw[e,hb]at h2;simp at h2
 ·obtain⟨rb,v3,v4,h2⟩:=h.en_at hx
  rw[e,hm]at h2;simp at h2
 ·obtain⟨rb,v3,v4,h2⟩:=h.en_at hx
  obtain⟨c,t,h4,h3⟩:=og hp
  rw[e,h4]at h2
  rcases h3 with rfl | rfl <;> simp at h2
theorem iF.hit {w w3:World}{b0 mb eb ob:Nat}{EL:List (Ky × Nat)}{C:Mc}{R:Nat->Rs->Prop}{M:Ms}(h:iF w b0 mb eb ob EL C R M)(hh:M.hits<100000)(hp:C.pol≠0){k:Ky}(hk:aa (fun j=>j=mb\/j=ob\/∃x∈EL,x.2=j) w w3)
  (dY:w3.heap[mb]?=some (.cells #[.int .i64 (C.mask:Int),iU C ob,.int .i32 1,.int .u32 0,.map (some eb),.int .i64 ((M.hits:Int)+1)] 218 (0,0)))
  (yD:∀b k rb,d8 w b k rb->d8 w3 b k rb) (hd:C.pol=1->tG w3 b0 ob C.bud C.nr EL M.plc) (ho:C.pol=2->im w3 b0 ob C.bud EL (k :: M.ord.erase k)):
  iF (w3.setCell ⟨mb,2,none⟩ (.int .i32 0)) b0 mb eb ob EL C R (ie C { M with hits:=M.hits+1 } k)/\aa (Mw b0 w) w (w3.setCell ⟨mb,2,none⟩ (.int .i32 0)):=by
 obtain⟨a1,a2,a3⟩:=h.apart
 have lc:aa (·=mb) w3 (w3.setCell ⟨mb,2,none⟩ (.int .i32 0)):=(aa.refl (·=mb) w3).setCell (p:=⟨mb,2,none⟩) (fun _=>rfl) _
 have hme:w3.heap[eb]?=w.heap[eb]?:=hk.block eb h.map.lt (fun x=>by
  rcases x with x | x | ⟨y,hy,e⟩
  ·exact a1 x
  ·exact(a2 hp).2 x.symm
  ·exact(a3 y hy).2.1 e)
 have hH:(ie C { M with hits:=M.hits+1 } k).hits=M.hits+1:=by unfold ie;split <;> rfl
 have hE:(ie C { M with hits:=M.hits+1 } k).ent=M.ent:=by unfold ie;split <;> rfl
 have hP:(ie C { M with hits:=M.hits+1 } k).plc=M.plc:=by unfold ie;split <;> rfl
 refine⟨⟨h.ok,?_,(h.map.same hme).same (lc.block eb (by have:=h.map.lt;have:=hk.size;omega) a1),by rw[hE];exact h.keys,h.nd,h.in_,fun i hi eM=>?_,h.low,h.no0,fun GF=>?_,fun lO=>?_,by rw[hH];omega⟩,?_⟩
 ·rw[aj dY,hH]
  simp
 ·simp only[hE]at eM ⊢
  obtain⟨rb,h1,h2⟩:=h.ent i hi eM
  have h3:=yD _ _ _ h1
  exact⟨rb,h3.same (lc.block _ h3.lt (a3 _ (List.getElem_mem hi)).1),h2⟩
 ·rw[hP]
  exact(hd GF).kept lc (fun j c t f hc ht e=>by
   have e':j=mb:=e
   rw[e',dY]at hc
   rcases ht with rfl | rfl <;> simp at hc)
 ·have:(ie C { M with hits:=M.hits+1 } k).ord=k :: M.ord.erase k:=by unfold ie;rw[if_pos lO]
  rw[this]
  exact(ho lO).kept lc (a2 hp).1 (fun e he=>(a3 e he).1)
 ·refine aa.setCell (S:=Mw b0 w) (hk.mono (T:=Mw b0 w) (fun j _ hj=>h.mw ?_)) (p:=⟨mb,2,none⟩) (fun _=>h.mw (.inl rfl)) _
  rcases hj with e | e | e
  ·exact .inl e
  ·exact .inr (.inl ⟨e,hp⟩)
  ·exact .inr (.inr e)
theorem xF (a : Addr) (w : World) : (method 444 219 (.pointer (some a)) "pegtable/memory.use").run Tryz.prog w = .ok (236, .pointer (some a)) w := by kernel_rfl
theorem xG (a : Addr) (w : World) : (method 444 221 (.pointer (some a)) "pegtable/memory.use").run Tryz.prog w = .ok (240, .pointer (some a)) w := by kernel_rfl
theorem G7 (a : Addr) (w : World) : (method 444 219 (.pointer (some a)) "pegtable/memory.add").run Tryz.prog w = .ok (235, .pointer (some a)) w := by kernel_rfl
theorem G8 (a : Addr) (w : World) : (method 444 221 (.pointer (some a)) "pegtable/memory.add").run Tryz.prog w = .ok (238, .pointer (some a)) w := by kernel_rfl
structure Vr (b0 mb:Nat)(C:Mc)(R:Nat->Rs->Prop)(X:Option Rs × Ms)(w:World)(e:Ending)(w':World):Prop where
 no:X.1=none->e=.returned (.tuple #[.pointer none,.bool false])
 yes:∀r,X.1=some r->∃rb,e=.returned (.tuple #[aw rb,.bool true])/\R rb r
 st:∃eb ob EL,iF w' b0 mb eb ob EL C R X.2
 kept:aa (Mw b0 w) w w'
theorem JE (b0 mb eb ob:Nat)(EL:List (Ky × Nat))(C:Mc)(R:Nat->Rs->Prop)(M:Ms)(k:Ky)(w:World)(h:iF w b0 mb eb ob EL C R M)(hh:M.hits<100000):
  Calls Tryz.prog 103 #[aw mb,lG k] w fun e w'=>Vr b0 mb C R (fh C M k) w e w':=by
 have hb:=h.blk
 have c1:w.cell? ⟨mb,1,none⟩=some (iU C ob):=by simp[World.cell?,hb]
 have c2:w.cell? ⟨mb,2,none⟩=some (.int .i32 0):=by simp[World.cell?,hb]
 have c4:w.cell? ⟨mb,4,none⟩=some (.map (some eb)):=by simp[World.cell?,hb]
 have c5:w.cell? ⟨mb,5,none⟩=some (.int .i64 (M.hits:Int)):=by simp[World.cell?,hb]
 have f2:w.frozen? ⟨mb,2,none⟩=false:=by simp[World.frozen?,hb]
 have f5:w.frozen? ⟨mb,5,none⟩=false:=by simp[World.frozen?,hb]
 have AQ:=av c2
 obtain⟨w1,dZ⟩:∃w1,w1=((w.setCell ⟨mb,2,none⟩ (.int .i32 1)).alloc (.cells #[.int .i64 (k.inp:Int),.int .i64 (k.rule:Int),.int .i64 (k.place:Int)] 225)):=⟨_,rfl⟩
 have hme:eb≠mb:=by
  rintro rfl
  obtain⟨es,c,h1,_⟩:=h.map
  rw[hb]at h1;simp at h1
 have ux:aa (·=mb) w w1:=by rw[dZ];exact((aa.refl (·=mb) w).setCell (p:=⟨mb,2,none⟩) (fun _=>rfl) _).alloc _
 have AO:ei w1 eb EL:=h.map.same (ux.block eb h.map.lt hme)
 have hlk:=uM AO k
 have pE:∀n,(Instr.lookup 210 (.map (some eb)) (lG k) true).run Tryz.prog (w1.drewN n)=.ok (.tuple #[mS ((m9 EL k 0).map (·.2)),.bool (m9 EL k 0).isSome]) (w1.drewN n):=fun n=>uM (show ei (w1.drewN n) eb EL from AO) k
 clear hlk
 have hL:=fun(W:World) (hc:W.cell? ⟨mb,2,none⟩=some (.int .i32 0)) (hf:W.frozen? ⟨mb,2,none⟩=false)=>lock_free Tryz.muLib ⟨mb,2,none⟩ W hc hf
 have dE:w1.heap[mb]?=some (.cells #[.int .i64 (C.mask:Int),iU C ob,.int .i32 1,.int .u32 0,.map (some eb),.int .i64 (M.hits:Int)] 218 (0,0)):=by
  rw[dZ]
  exact(Below.heap_alloc _ _ _ (by simpa using AQ)).trans (aj hb 2 _)
 unfold lG at *
 unfold aw at *
 go_enter_defers Tryz.func103,Tryz.ntmps103
 go_wp2_with fail
 refine(hL _ (by go_simp) (by go_simp)).mono ?_
 rintro e w2 ⟨rfl,rfl⟩
 go_wp2_with fail
 rw[<-dZ]
 have d1:w1.cell? ⟨mb,1,none⟩=some (iU C ob):=by simp[World.cell?,dE]
 have d2:w1.cell? ⟨mb,2,none⟩=some (.int .i32 1):=by simp[World.cell?,dE]
 have d4:w1.cell? ⟨mb,4,none⟩=some (.map (some eb)):=by simp[World.cell?,dE]
 have d5:w1.cell? ⟨mb,5,none⟩=some (.int .i64 (M.hits:Int)):=by simp[World.cell?,dE]
 have e2:w1.frozen? ⟨mb,2,none⟩=false:=by simp[World.frozen?,dE]
 have e5:w1.frozen? ⟨mb,5,none⟩=false:=by simp[World.frozen?,dE]
 have gh:w.heap.size+1=w1.heap.size:=by rw[dZ];simp
 have dx:w1.heap[w.heap.size]?=some (.cells #[.int .i64 (k.inp:Int),.int .i64 (k.rule:Int),.int .i64 (k.place:Int)] 225 (0,0)):=by
  rw[dZ];have:=heap_alloc_new (w.setCell ⟨mb,2,none⟩ (.int .i32 1)) (.cells #[.int .i64 (k.inp:Int),.int .i64 (k.rule:Int),.int .i64 (k.place:Int)] 225);simpa using this
 have k0:w1.cell? ⟨w.heap.size,0,none⟩=some (.int .i64 (k.inp:Int)):=by simp[World.cell?,dx]
 have k1:w1.cell? ⟨w.heap.size,1,none⟩=some (.int .i64 (k.rule:Int)):=by simp[World.cell?,dx]
 have k2:w1.cell? ⟨w.heap.size,2,none⟩=some (.int .i64 (k.place:Int)):=by simp[World.cell?,dx]
 cases hx:m9 EL k 0 with
 | none=>
  rw[hx]at pE
  have hg:=ub EL M.ent k 0 h.keys hx
  have HF:Hid (fh C M k=(none,M)):=by unfold Hid fh;rw[hg]
  simp only[Option.map_none,Option.isSome_none,mS]at pE
  have HK:=fun nq=>ae (LK (W:=w1.drewN nq) hb (show w1.heap[mb]?=_ from dE) rfl (ux.drewN nq))
  clear dE ux AO dZ dx hL hg hb
  go_quiet (fail)
  go_wp2
  refine leaves_cons (f:=109) (args:=#[.pointer (some ⟨mb,2,none⟩)]) (by simp) (by simp[go_sem]) ?_
  refine(unlock_deferred Tryz.muLib ⟨mb,2,none⟩ .returning (w1.drewN nq) d2 e2).mono ?_
  rintro e u' w'' ⟨rfl,rfl,rfl⟩
  rw[HF.out]
  exact⟨_,results_tmp2 rfl _ _ _,fun _=>rfl,fun r hr=>(by cases hr),⟨eb,ob,EL,h.same (HK nq).out⟩,(HK nq).out.mono (fun _ _ x=>x.elim)⟩
 | some x=>
  obtain⟨j,b⟩:=x
  rw[hx]at pE
  obtain⟨q,hj,mF,ki,Zq,hg⟩:=uc EL M.ent k 0 j b h.keys hx
  obtain⟨rb,yD,hR⟩:=h.ent q mF ki
  rw[Zq]at yD
  dsimp only at yD
  have eP:(k,b)∈EL:=by rw[<-Zq];exact List.getElem_mem mF
  have iw:C.pol≠0:=fun e=>by rw[h.no0 e]at eP;cases eP
  have HF:Hid (fh C M k=(some M.ent[q].2,ie C { M with hits:=M.hits+1 } k)):=by unfold Hid fh;rw[hg]
  simp only[Option.map_some,Option.isSome_some,mS]at pE
  have xj:b≠mb:=by
   rintro rfl
   obtain⟨v3,v4,h1⟩:=yD
   rw[hb]at h1;simp at h1
  have SH:¬mb=b:=fun e=>xj e.symm
  have Oy:C.pol=2->ob≠mb:=by
   intro hp e
   obtain⟨fr,_,kf⟩:=(h.old hp).free
   rw[e,kq hb]at kf
   simp at kf
  rcases(h.ok.pol.resolve_left (fun e=>iw e.1)).1 with hp | hp
  ·have yL:iU C ob=.iface 219 (.pointer (some ⟨ob,0,none⟩)):=by unfold iU aw;rw[if_pos hp]
   rw[yL]at d1
   have hU:=fun W=>BU ob b W
   have SI:=xF
   unfold aw at hU
   clear AO dZ dx hL hg
   go_quiet (fail)
   go_wp2_with fail
   obtain⟨w2,gQ⟩:∃w2,w2=(w1.drewN nq).setCell ⟨mb,5,none⟩ (.int .i64 ((M.hits:Int)+1)):=⟨_,rfl⟩
   rw[<-gQ]
   have eL:w2.heap[mb]?=some (.cells #[.int .i64 (C.mask:Int),iU C ob,.int .i32 1,.int .u32 0,.map (some eb),.int .i64 ((M.hits:Int)+1)] 218 (0,0)):=by
    rw[gQ];exact aj (show (w1.drewN nq).heap[mb]?=_ from dE) 5 _
   have co:aa (·=mb) w w2:=by rw[gQ];exact(ux.drewN nq).setCell (p:=⟨mb,5,none⟩) (fun _=>rfl) _
   rw[yL]at eL
   have g1:w2.cell? ⟨mb,1,none⟩=some (.iface 219 (.pointer (some ⟨ob,0,none⟩))):=by simp[World.cell?,eL]
   have g2:w2.cell? ⟨mb,2,none⟩=some (.int .i32 1):=by simp[World.cell?,eL]
   have g3:w2.frozen? ⟨mb,2,none⟩=false:=by simp[World.frozen?,eL]
   have rj:d8 w2 b k rb:=yD.same (co.block b yD.lt xj)
   have g5:w2.cell? ⟨b,5,none⟩=some (.pointer (some ⟨rb,0,none⟩)):=by
    obtain⟨v3,v4,h1⟩:=rj
    simp[World.cell?,h1,aw]
   clear dE ux gQ d1 d2 d4 d5 e2 e5 k0 k1 k2 pE c1 c2 c4 c5 f2 f5
   go_region_held3 (fun w'=>w'.cell? ⟨mb,1,none⟩=some (.iface 219 (.pointer (some ⟨ob,0,none⟩)))) (go_keep) ((go_at_call 236;refine(hU _).mono ?_;rintro e w3 ⟨rfl,rfl⟩))
   go_wp2
   refine leaves_cons (f:=109) (args:=#[.pointer (some ⟨mb,2,none⟩)]) (by simp) (by simp[go_sem]) ?_
   refine(unlock_deferred Tryz.muLib ⟨mb,2,none⟩ .returning w2.drew g2 g3).mono ?_
   rintro e u' w'' ⟨rfl,rfl,rfl⟩
   rw[HF.out]
   have eO:=h.hit (w3:=w2.drew) (k:=k) hh iw ((co.mono (T:=fun j=>j=mb\/j=ob\/∃x∈EL,x.2=j) (fun j _ e=>Or.inl e)).drew) (show w2.heap[mb]?=_ by rw[yL];exact eL) (fun b k rb h'=>h'.same (co.block b h'.lt (fun e=>by
    obtain⟨v3,v4,h1⟩:=h'
    have e':b=mb:=e
    rw[e',h.blk]at h1;simp at h1))) (fun GF=>(h.dir GF).kept co.drew (fun j c t f hc ht e=>by
    have e':j=mb:=e
    rw[e',h.blk]at hc
    rcases ht with rfl | rfl <;> simp at hc)) (fun lO=>by omega)
   exact⟨_,results_tmp2 rfl _ _ _,fun hn=>(by cases hn),fun r hr=>(by cases hr;exact⟨rb,rfl,hR⟩),⟨eb,ob,EL,eO.1⟩,eO.2⟩
  ·have yL:iU C ob=.iface 221 (.pointer (some ⟨ob,0,none⟩)):=by unfold iU aw;rw[if_neg (by omega),if_pos hp]
   rw[yL]at d1
   have SI:=xG
   have oF:=h.apart
   clear AO dZ dx hL hg
   go_quiet (fail)
   go_wp2_with fail
   obtain⟨w2,gQ⟩:∃w2,w2=(w1.drewN nq).setCell ⟨mb,5,none⟩ (.int .i64 ((M.hits:Int)+1)):=⟨_,rfl⟩
   rw[<-gQ]
   have eL:w2.heap[mb]?=some (.cells #[.int .i64 (C.mask:Int),iU C ob,.int .i32 1,.int .u32 0,.map (some eb),.int .i64 ((M.hits:Int)+1)] 218 (0,0)):=by
    rw[gQ];exact aj (show (w1.drewN nq).heap[mb]?=_ from dE) 5 _
   have co:aa (·=mb) w w2:=by rw[gQ];exact(ux.drewN nq).setCell (p:=⟨mb,5,none⟩) (fun _=>rfl) _
   rw[yL]at eL
   have g1:w2.cell? ⟨mb,1,none⟩=some (.iface 221 (.pointer (some ⟨ob,0,none⟩))):=by simp[World.cell?,eL]
   have XY:im w2.drew b0 ob C.bud EL M.ord:=(h.old hp).kept (co.drew) (oF.2.1 iw).1 (fun e he=>(oF.2.2 e he).1)
   have hU:=BV XY h.nd eP
   unfold aw at hU
   have rj:∀b k rb,d8 w b k rb->d8 w2.drew b k rb:=fun b k rb h'=>h'.same (co.drew.block b h'.lt (fun e=>by
    obtain⟨v3,v4,h1⟩:=h'
    have e':b=mb:=e
    rw[e',h.blk]at h1;simp at h1))
   clear dE ux gQ d1 d2 d4 d5 e2 e5 k0 k1 k2 pE c1 c2 c4 c5 f2 f5
   have KA:¬(mb=ob\/∃x∈EL,x.2=mb):=fun e=>by
    rcases e with e | ⟨x,hx,e⟩
    ·exact(oF.2.1 iw).1 e.symm
    ·exact(oF.2.2 x hx).1 e
   have uB:mb<w2.drew.heap.size:=ag (show ai w2 mb=_ from eL)
   go_region_held3 (fun w'=>w'.cell? ⟨mb,1,none⟩=some (.iface 221 (.pointer (some ⟨ob,0,none⟩)))) (go_keep) ((go_at_call 240;refine hU.mono ?_;rintro e w3 ⟨rfl,ho3,Gx,ff⟩;have g1':w3.cell? ⟨mb,1,none⟩=some (.iface 221 (.pointer (some ⟨ob,0,none⟩))):=(ff.cell (p:=⟨mb,1,none⟩) uB KA).trans g1))
   have qaZ:aa (fun j=>j=mb\/j=ob\/∃x∈EL,x.2=j) w w3:=(co.drew.mono (T:=fun j=>j=mb\/j=ob\/∃x∈EL,x.2=j) (fun j _ e=>Or.inl e)).trans (ff.mono (fun j _ e=>Or.inr e))
   have dY:w3.heap[mb]?=some (.cells #[.int .i64 (C.mask:Int),.iface 221 (.pointer (some ⟨ob,0,none⟩)),.int .i32 1,.int .u32 0,.map (some eb),.int .i64 ((M.hits:Int)+1)] 218 (0,0)):=(ff.block mb uB KA).trans eL
   have g2:w3.cell? ⟨mb,2,none⟩=some (.int .i32 1):=by simp[World.cell?,dY]
   have g3:w3.frozen? ⟨mb,2,none⟩=false:=by simp[World.frozen?,dY]
   have g5:w3.cell? ⟨b,5,none⟩=some (.pointer (some ⟨rb,0,none⟩)):=by
    obtain⟨v3,v4,h1⟩:=Gx _ _ _ (rj _ _ _ yD)
    simp[World.cell?,h1,aw]
   go_wp2
   refine leaves_cons (f:=109) (args:=#[.pointer (some ⟨mb,2,none⟩)]) (by simp) (by simp[go_sem]) ?_
   refine(unlock_deferred Tryz.muLib ⟨mb,2,none⟩ .returning w3 g2 g3).mono ?_
   rintro e u' w'' ⟨rfl,rfl,rfl⟩
   rw[HF.out]
   have eO:=h.hit (w3:=w3) (k:=k) hh iw qaZ (by rw[yL];exact dY) (fun b k rb h'=>Gx _ _ _ (rj _ _ _ h')) (fun GF=>by omega) (fun _=>ho3)
   exact⟨_,results_tmp2 rfl _ _ _,fun hn=>(by cases hn),fun r hr=>(by cases hr;exact⟨rb,rfl,hR⟩),⟨eb,ob,EL,eO.1⟩,eO.2⟩
structure D5 (b0 mb:Nat)(C:Mc)(R:Nat->Rs->Prop)(X:Ms)(w:World)(e:Ending)(w':World):Prop where
 res:e=.returned (.tuple #[])
 st:∃eb ob EL,iF w' b0 mb eb ob EL C R X
 kept:aa (Mw b0 w) w w'
theorem NR:∀m:Fin 256,∀r:Fin 8,(bits BinOp.and IntKind.i64 ((m.val:Int) / 2^r.val) 1 == 0)=decide (m.val / 2^r.val%2=0):=by decide +kernel
theorem CF {m r:Nat}(hm:m<=255)(hr:r<8):(bits BinOp.and IntKind.i64 ((m:Int) / 2^r) 1 == 0)=decide (m / 2^r%2=0):=NR ⟨m,by omega⟩ ⟨r,hr⟩
theorem GR (b0 mb eb ob:Nat)(EL:List (Ky × Nat))(C:Mc)(R:Nat->Rs->Prop)(M:Ms)(k:Ky)(rb:Nat)(r:Rs)(w:World)(h:iF w b0 mb eb ob EL C R M)(hk:sB k)(h0:C.mask / 2^k.rule%2=0):
  Calls Tryz.prog 152 #[aw mb,lG k,aw rb] w fun e w'=>D5 b0 mb C R (eD C M k r) w e w':=by
 have hb:=h.blk
 have c0:w.cell? ⟨mb,0,none⟩=some (.int .i64 (C.mask:Int)):=by simp[World.cell?,hb]
 have AQ:=av c0
 have HM:Hid (eD C M k r=M):=by unfold Hid eD;rw[if_pos h0]
 have XD:=hk.rule
 have hq:=CF h.ok.mask XD
 rw[decide_eq_true h0]at hq
 clear hb
 unfold lG aw at *
 go_enter_defers Tryz.func152,Tryz.ntmps152
 go_wp2_with fail
 go_quiet (fail)
 go_wp2
 rw[HM.out]
 exact⟨_,results_none rfl _ _ _,rfl,⟨eb,ob,EL,h.same (((aa.refl _ w).alloc _).drewN _)⟩,(((aa.refl _ w).alloc _).drewN _)⟩
def Pw (w:World)(R:Nat->Rs->Prop)(x:Ky × Nat)(y:Ky × Rs):Prop:=x.1=y.1/\∃rb,d8 w x.2 x.1 rb/\R rb y.2
inductive F2 {α β:Type} (P:α->β->Prop):List α->List β->Prop
 | nil:F2 P [] []
 | cons {a b l m}:P a b->F2 P l m->F2 P (a :: l) (b :: m)
theorem F2.len {α β:Type}{P:α->β->Prop}{l:List α}{m:List β}(h:F2 P l m):l.length=m.length:=by
 induction h with
 | nil=>rfl
 | cons _ _ ih=>simp[ih]
theorem F2.get {α β:Type}{P:α->β->Prop}{l:List α}{m:List β}(h:F2 P l m):∀i (h1:i<l.length) (h2:i<m.length),P l[i] m[i]:=by
 induction h with
 | nil=>intro i h1;simp at h1
 | cons hp _ ih=>
  intro i h1 h2
  cases i with
  | zero=>exact hp
  | succ i=>simp only[List.getElem_cons_succ];exact ih i _ _
theorem F2.mk' {α β:Type}{P:α->β->Prop}:∀{l:List α} {m:List β},l.length=m.length->(∀i (h1:i<l.length) (h2:i<m.length),P l[i] m[i])->F2 P l m
 | [],[],_,_=>.nil
 | [],_ :: _,h,_=>by simp at h
 | _ :: _,[],h,_=>by simp at h
 | a :: l,b :: m,h,hp=>.cons (hp 0 (by simp) (by simp)) (F2.mk' (by simpa using h) (fun i h1 h2=>by
   have:=hp (i+1) (by simp;omega) (by simp;omega)
   simpa using this))
theorem F2.app {α β:Type}{P:α->β->Prop}{l l':List α}{m m':List β}(h:F2 P l m)(h':F2 P l' m'):F2 P (l++l') (m++m'):=by
 induction h with
 | nil=>exact h'
 | cons hp _ ih=>exact .cons hp ih
theorem F2.mono {α β:Type}{P Q:α->β->Prop}{l:List α}{m:List β}(h:F2 P l m)(hPQ:∀a b,a∈l->P a b->Q a b):F2 Q l m:=by
 induction h with
 | nil=>exact .nil
 | cons hp _ ih=>exact .cons (hPQ _ _ (by simp) hp) (ih (fun a b ha=>hPQ a b (List.mem_cons_of_mem _ ha)))
theorem iF.f2 {w:World}{b0 mb eb ob:Nat}{EL:List (Ky × Nat)}{C:Mc}{R:Nat->Rs->Prop}{M:Ms}(h:iF w b0 mb eb ob EL C R M):F2 (Pw w R) EL M.ent:=by
 have hl:EL.length=M.ent.length:=by have:=congrArg List.length h.keys;simpa using this
 refine F2.mk' hl (fun i h1 h2=>⟨?_,h.ent i h1 h2⟩)
 have:(EL.map (·.1))[i]?=(M.ent.map (·.1))[i]?:=by rw[h.keys]
 simpa [h1,h2] using this
theorem F2.keys {w:World}{R:Nat->Rs->Prop}{EL:List (Ky × Nat)}{L:List (Ky × Rs)}(h:F2 (Pw w R) EL L):EL.map (·.1)=L.map (·.1):=by
 induction h with
 | nil=>rfl
 | cons hp _ ih=>simp[hp.1,ih]
theorem F2.rm {w:World}{R:Nat->Rs->Prop}{EL:List (Ky × Nat)}{L:List (Ky × Rs)}(h:F2 (Pw w R) EL L)(k:Ky):F2 (Pw w R) (lU EL k) (CN L k):=by
 induction h with
 | nil=>exact .nil
 | @cons a b l m hp hr ih=>
  rw[lU,CN,<-hp.1]
  by_cases hk:k=a.1
  ·rw[if_pos hk,if_pos hk.symm];exact hr
  ·rw[if_neg hk,if_neg (fun e=>hk e.symm)];exact .cons hp ih
theorem F2.upd {w w':World}{R:Nat->Rs->Prop}{EL:List (Ky × Nat)}{L:List (Ky × Rs)}(h:F2 (Pw w R) EL L)(ts:(EL.map (·.1)).Nodup){k:Ky}{b rb:Nat}{r:Rs}(hm:(k,b)∈EL)(hR:R rb r)(hb:d8 w' b k rb)(ho:∀x∈EL,x.1≠k->∀q,d8 w x.2 x.1 q->d8 w' x.2 x.1 q):F2 (Pw w' R) EL (pg L k r):=by
 induction h with
 | nil=>cases hm
 | @cons a y l m hp hr ih=>
  rw[List.map_cons,List.nodup_cons]at ts
  rw[pg]
  have X1:∀x∈l,x.1≠k->∀q,d8 w x.2 x.1 q->d8 w' x.2 x.1 q:=fun x hx=>ho x (List.mem_cons_of_mem _ hx)
  by_cases hk:y.1=k
  ·rw[if_pos hk]
   have UJ:a.1=k:=hp.1.trans hk
   have gu:a=(k,b):=by
    rcases List.mem_cons.1 hm with e | e
    ·exact e.symm
    ·exact absurd (List.mem_map_of_mem e) (by rw[<-UJ]at *;exact ts.1)
   refine .cons ⟨hp.1,rb,by rw[gu];exact hb,hR⟩ (hr.mono (fun x z hx hxz=>⟨hxz.1,?_⟩))
   obtain⟨q,h1,h2⟩:=hxz.2
   refine⟨q,X1 x hx (fun e=>ts.1 ?_) q h1,h2⟩
   rw[UJ,<-e];exact List.mem_map_of_mem hx
  ·rw[if_neg hk]
   have UJ:a.1≠k:=fun e=>hk (hp.1.symm.trans e)
   obtain⟨q,h1,h2⟩:=hp.2
   refine .cons ⟨hp.1,q,ho a (by simp) UJ q h1,h2⟩ (ih ts.2 ?_ X1)
   rcases List.mem_cons.1 hm with e | e
   ·rw[<-e]at UJ;exact absurd rfl UJ
   ·exact e
theorem iF.mk5 {w5:World}{b0 mb eb ob:Nat}{EL':List (Ky × Nat)}{C:Mc}{R:Nat->Rs->Prop}{M':Ms}(iJ:Rv C)(EN:w5.heap[mb]?=some (.cells #[.int .i64 (C.mask:Int),iU C ob,.int .i32 1,.int .u32 0,.map (some eb),.int .i64 (M'.hits:Int)] 218 (0,0)))
  (Kz:ei w5 eb EL') (hf:F2 (Pw w5 R) EL' M'.ent) (ts:(EL'.map (·.1)).Nodup) (fm:∀e∈EL',sB e.1) (ew:b0<=mb/\b0<=eb/\∀e∈EL',b0<=e.2) (hp:C.pol≠0)
  (hd:C.pol=1->tG w5 b0 ob C.bud C.nr EL' M'.plc) (ho:C.pol=2->im w5 b0 ob C.bud EL' M'.ord) (hh:M'.hits<=100000):
  iF (w5.setCell ⟨mb,2,none⟩ (.int .i32 0)) b0 mb eb ob EL' C R M':=by
 have hk:aa (·=mb) w5 (w5.setCell ⟨mb,2,none⟩ (.int .i32 0)):=(aa.refl (·=mb) w5).setCell (p:=⟨mb,2,none⟩) (fun _=>rfl) _
 have eW:∀j c t,w5.heap[j]?=some (.cells c t (0,0))->t≠218->j≠mb:=by
  intro j c t hj ht e
  rw[e,EN]at hj;simp at hj;exact ht hj.2.symm
 refine⟨iJ,?_,Kz.same (hk.block eb Kz.lt (fun e=>?_)),hf.keys,ts,fm,fun i h1 h2=>?_,ew,fun e=>absurd e hp,fun GF=>(hd GF).kept hk (fun j c t f hc ht e=>?_),fun lO=>?_,hh⟩
 ·rw[aj EN];simp
 ·obtain⟨es,c,hm,_⟩:=Kz
  have e':eb=mb:=e
  rw[e',EN]at hm;simp at hm
 ·obtain⟨_,rb,h3,h4⟩:=hf.get i h1 h2
  refine⟨rb,h3.same (hk.block _ h3.lt ?_),h4⟩
  obtain⟨v3,v4,h5⟩:=h3
  exact eW _ _ _ h5 (by decide)
 ·have e':j=mb:=e
  rw[e',EN]at hc
  rcases ht with rfl | rfl <;> simp at hc
 ·obtain⟨c0,h0⟩:=(ho lO).ty
  refine(ho lO).kept hk (eW _ _ _ h0 (by decide)) (fun e he=>?_)
  obtain⟨i,hi,rfl⟩:=List.getElem_of_mem he
  obtain⟨_,rb,⟨v3,v4,h5⟩,_⟩:=hf.get i hi (by rw[<-hf.len];exact hi)
  exact eW _ _ _ h5 (by decide)
structure LkF (w w1:World)(mb eb ob:Nat)(EL:List (Ky × Nat))(C:Mc)(M:Ms)(k:Ky):Prop where
 kept:aa (·=mb) w w1
 map:ei w1 eb EL
 blk:w1.heap[mb]?=some (.cells #[.int .i64 (C.mask:Int),iU C ob,.int .i32 1,.int .u32 0,.map (some eb),.int .i64 (M.hits:Int)] 218 (0,0))
 key:w1.heap[w.heap.size]?=some (.cells #[.int .i64 (k.inp:Int),.int .i64 (k.rule:Int),.int .i64 (k.place:Int)] 225 (0,0))
 size:w1.heap.size=w.heap.size+1
theorem iF.locked {w:World}{b0 mb eb ob:Nat}{EL:List (Ky × Nat)}{C:Mc}{R:Nat->Rs->Prop}{M:Ms}(h:iF w b0 mb eb ob EL C R M)(k:Ky)(n:Nat):LkF w (((w.alloc (.cells #[.int .i64 (k.inp:Int),.int .i64 (k.rule:Int),.int .i64 (k.place:Int)] 225)).drewN n).setCell ⟨mb,2,Option.none⟩ (.int .i32 1)) mb eb ob EL C M k:=by
 have AQ:=ag (show ai w mb=_ from h.blk)
 have hk:aa (·=mb) w (((w.alloc (.cells #[.int .i64 (k.inp:Int),.int .i64 (k.rule:Int),.int .i64 (k.place:Int)] 225)).drewN n).setCell ⟨mb,2,Option.none⟩ (.int .i32 1)):=(((aa.refl (·=mb) w).alloc _).drewN n).setCell (p:=⟨mb,2,Option.none⟩) (fun _=>rfl) _
 refine⟨hk,h.map.same (hk.block eb h.map.lt h.apart.1),?_,?_,by simp⟩
 ·exact aj (show ((w.alloc _).drewN n).heap[mb]?=_ from(Below.heap_alloc _ _ _ AQ).trans h.blk) 2 _
 ·rw[Below.heap_setCell _ _ _ _ (show w.heap.size≠mb by omega)]
  exact heap_alloc_new w _
theorem LkF.look {w w1:World}{mb eb ob:Nat}{EL:List (Ky × Nat)}{C:Mc}{M:Ms}{k:Ky}(h:LkF w w1 mb eb ob EL C M k)(n:Nat):(Instr.lookup 210 (.map (some eb)) (.agg #[.int .i64 (k.inp:Int),.int .i64 (k.rule:Int),.int .i64 (k.place:Int)]) true).run Tryz.prog (w1.drewN n)=.ok (.tuple #[mS ((m9 EL k 0).map (·.2)),.bool (m9 EL k 0).isSome]) (w1.drewN n):=uM (show ei (w1.drewN n) eb EL from h.map) k
theorem im.val {w:World}{b0 ob bud:Nat}{EL:List (Ky × Nat)}{ks:List Ky}(h:im w b0 ob bud EL ks){b:Nat}(hb:b≠ob)(v:Value):im (w.setCell ⟨b,5,none⟩ v) b0 ob bud EL ks:=by
 obtain⟨OL,hp,eZ,od,nw,hr,hl⟩:=h.ex
 obtain⟨fr,Kl,kf⟩:=h.free
 refine⟨⟨OL,hp,eZ,od,nw,hr,fun x hx=>?_⟩,⟨fr,Kl,?_⟩,h.low⟩
 ·have h1:=hl x hx
  unfold qJ at h1 ⊢
  by_cases QG:x=b
  ·subst QG
   have h2:=aj h1 5 v
   rw[h2]
   have h3:dK (w.setCell ⟨x,5,none⟩ v) x={ dK w x with a5:=v }:=by
    have Gk:(w.setCell ⟨x,5,none⟩ v).heap[x]?=some (.cells #[(dK w x).a0,(dK w x).a1,(dK w x).a2,aw (od x),aw (nw x),v] (dK w x).ty (0,0)):=by rw[h2];simp
    exact kq Gk
   rw[h3]
   simp
  ·have he:(w.setCell ⟨b,5,none⟩ v).heap[x]?=w.heap[x]?:=Below.heap_setCell _ _ _ _ (show x≠b from QG)
   have h3:dK (w.setCell ⟨b,5,none⟩ v) x=dK w x:=by unfold dK;rw[he]
   rw[he,h3];exact h1
 ·have he:(w.setCell ⟨b,5,none⟩ v).heap[ob]?=w.heap[ob]?:=Below.heap_setCell _ _ _ _ (show ob≠b from fun e=>hb e.symm)
  unfold dK at kf ⊢
  rw[he];exact kf
theorem GS (b0 mb eb ob:Nat)(EL:List (Ky × Nat))(C:Mc)(R:Nat->Rs->Prop)(M:Ms)(k:Ky)(rb b j:Nat)(r:Rs)(w:World)(h:iF w b0 mb eb ob EL C R M)(hk:sB k)(h1:¬C.mask / 2^k.rule%2=0)(hR:R rb r)(hx:m9 EL k 0=some (j,b)):
  Calls Tryz.prog 152 #[aw mb,lG k,aw rb] w fun e w'=>D5 b0 mb C R (eD C M k r) w e w':=by
 have hb:=h.blk
 have oF:=h.apart
 have c0:w.cell? ⟨mb,0,none⟩=some (.int .i64 (C.mask:Int)):=by simp[World.cell?,hb]
 have c2:w.cell? ⟨mb,2,none⟩=some (.int .i32 0):=by simp[World.cell?,hb]
 have f2:w.frozen? ⟨mb,2,none⟩=false:=by simp[World.frozen?,hb]
 have AQ:=av c0
 have XD:=hk.rule
 have hq:=CF h.ok.mask XD
 rw[decide_eq_false h1]at hq
 obtain⟨q,hj,mF,ki,Zq,hg⟩:=uc EL M.ent k 0 j b h.keys hx
 have eP:(k,b)∈EL:=by rw[<-Zq];exact List.getElem_mem mF
 obtain⟨rb0,yD⟩:=h.en_at eP
 dsimp only at yD
 have iw:C.pol≠0:=fun e=>by rw[h.no0 e]at eP;cases eP
 have HM:Hid (eD C M k r=ie C { M with ent:=pg M.ent k r } k):=by
  unfold Hid eD;rw[if_neg h1,hg];rfl
 have hL:=fun(W:World) (hc:W.cell? ⟨mb,2,none⟩=some (.int .i32 0)) (hf:W.frozen? ⟨mb,2,none⟩=false)=>lock_free Tryz.muLib ⟨mb,2,none⟩ W hc hf
 unfold lG aw at *
 clear hb
 go_enter_defers Tryz.func152,Tryz.ntmps152
 go_wp2_with fail
 go_quiet (fail)
 go_wp2_with fail
 refine(hL _ (by go_simp) (by go_simp)).mono ?_
 rintro e w2 ⟨rfl,rfl⟩
 go_wp2_with fail
 have hF:=h.locked k nq
 obtain⟨w1,dZ⟩:∃w1,w1=(((w.alloc (.cells #[.int .i64 (k.inp:Int),.int .i64 (k.rule:Int),.int .i64 (k.place:Int)] 225)).drewN nq).setCell ⟨mb,2,none⟩ (.int .i32 1)):=⟨_,rfl⟩
 rw[<-dZ]at hF
 rw[<-dZ]
 clear dZ c0 c2 f2 hL hq
 have pE:=hF.look
 rw[hx]at pE
 simp only[Option.map_some,Option.isSome_some,mS]at pE
 have d4:w1.cell? ⟨mb,4,none⟩=some (.map (some eb)):=by simp[World.cell?,hF.blk]
 have k0:w1.cell? ⟨w.heap.size,0,none⟩=some (.int .i64 (k.inp:Int)):=by simp[World.cell?,hF.key]
 have k1:w1.cell? ⟨w.heap.size,1,none⟩=some (.int .i64 (k.rule:Int)):=by simp[World.cell?,hF.key]
 have k2:w1.cell? ⟨w.heap.size,2,none⟩=some (.int .i64 (k.place:Int)):=by simp[World.cell?,hF.key]
 have qaJ:d8 w1 b k rb0:=yD.same (hF.kept.block b yD.lt (oF.2.2 _ eP).1)
 obtain⟨v3,v4,qx⟩:=qaJ
 have g5:w1.cell? ⟨b,5,none⟩=some (.pointer (some ⟨rb0,0,none⟩)):=by simp[World.cell?,qx,aw]
 have gf5:w1.frozen? ⟨b,5,none⟩=false:=by simp[World.frozen?,qx]
 go_quiet (fail)
 go_wp2_with fail
 obtain⟨w2,gQ⟩:∃w2,w2=(w1.drewN nq).setCell ⟨b,5,none⟩ (.pointer (some ⟨rb,0,none⟩)):=⟨_,rfl⟩
 rw[<-gQ]
 have xj:b≠mb:=(oF.2.2 _ eP).1
 have sO:b≠ob:=(oF.2.2 _ eP).2.2 iw
 have wg:aa (·=b) w1 w2:=by rw[gQ];exact((aa.refl (·=b) w1).drewN _).setCell (p:=⟨b,5,none⟩) (fun _=>rfl) _
 have SG:mb<w1.heap.size:=ag (show ai w1 mb=_ from hF.blk)
 have eL:w2.heap[mb]?=_:=(wg.block mb SG (fun e=>xj e.symm)).trans hF.blk
 have co:aa (fun j=>j=mb\/j=ob\/∃x∈EL,x.2=j) w w2:=(hF.kept.mono (T:=fun j=>j=mb\/j=ob\/∃x∈EL,x.2=j) (fun j _ e=>Or.inl e)).trans (wg.mono (fun j _ e=>Or.inr (Or.inr ⟨(k,b),eP,(show j=b from e).symm⟩)))
 have pF:ei w2 eb EL:=hF.map.same (wg.block eb hF.map.lt (fun e=>(oF.2.2 _ eP).2.1 e.symm))
 have we:d8 w2 b k rb:=⟨v3,v4,by rw[gQ,aj (show (w1.drewN nq).heap[b]?=_ from qx)];rfl⟩
 have qaL:∀x∈EL,x.1≠k->∀q,d8 w x.2 x.1 q->d8 w2 x.2 x.1 q:=by
  intro x hx eW q hq
  have QG:x.2≠b:=by
   intro e
   obtain⟨u3,u4,hu⟩:=hq
   obtain⟨t3,t4,ht⟩:=yD
   rw[e,ht]at hu
   have hA:=(Obj.cells.inj (Option.some.inj hu)).1
   have e1:=congrArg (fun a=>a[0]?) hA
   have e2:=congrArg (fun a=>a[1]?) hA
   have e3:=congrArg (fun a=>a[2]?) hA
   simp at e1 e2 e3
   apply eW
   obtain⟨⟨i,r,p⟩,z⟩:=x
   obtain⟨i',r',p'⟩:=k
   simp at e1 e2 e3 ⊢
   exact⟨by omega,by omega,by omega⟩
  have h1:=hq.same (hF.kept.block x.2 hq.lt (oF.2.2 x hx).1)
  exact h1.same (wg.block x.2 h1.lt QG)
 have Gy:=h.f2.upd h.nd (r:=r) eP hR we qaL
 have qaI:C.pol=1->tG w2 b0 ob C.bud C.nr EL M.plc:=fun GF=>((h.dir GF).kept hF.kept (fun j c t f hc ht e=>by
  have e':j=mb:=e
  rw[e',h.blk]at hc
  rcases ht with rfl | rfl <;> simp at hc)).kept wg (fun j c t f hc ht e=>by
  have e':j=b:=e
  rw[e',qx]at hc
  rcases ht with rfl | rfl <;> simp at hc)
 have SS:C.pol=2->im w2 b0 ob C.bud EL M.ord:=fun lO=>by
  rw[gQ]
  have h1:=(h.old lO).kept hF.kept (oF.2.1 iw).1 (fun e he=>(oF.2.2 e he).1)
  have h2:im (w1.drewN nq) b0 ob C.bud EL M.ord:=h1.kept ((aa.refl (fun _=>False) w1).drewN nq) (fun x=>x) (fun _ _ x=>x)
  exact h2.val sO _
 have ew:=h.low
 have ts:=h.nd
 have fm:=h.in_
 have iJ:=h.ok
 have Qk:=h.hits
 have hE:(ie C { M with ent:=pg M.ent k r } k).ent=pg M.ent k r:=by unfold ie;split <;> rfl
 have hH:(ie C { M with ent:=pg M.ent k r } k).hits=M.hits:=by unfold ie;split <;> rfl
 have hP:(ie C { M with ent:=pg M.ent k r } k).plc=M.plc:=by unfold ie;split <;> rfl
 have ET:∀j,(j=mb\/j=ob\/∃x∈EL,x.2=j)->Mw b0 w j:=fun j hj=>by
  rcases hj with e | e | e
  ·exact h.mw (.inl e)
  ·exact h.mw (.inr (.inl ⟨e,iw⟩))
  ·exact h.mw (.inr (.inr e))
 clear hF gQ d4 k0 k1 k2 pE g5 gf5 qx
 rcases(h.ok.pol.resolve_left (fun e=>iw e.1)).1 with hp | hp
 ·have yL:iU C ob=.iface 219 (.pointer (some ⟨ob,0,none⟩)):=by unfold iU aw;rw[if_pos hp]
  have hU:=fun W=>BU ob b W
  have SI:=xF
  unfold aw at hU
  have g1:w2.cell? ⟨mb,1,none⟩=some (.iface 219 (.pointer (some ⟨ob,0,none⟩))):=by rw[<-yL];simp[World.cell?,eL]
  have g2:w2.cell? ⟨mb,2,none⟩=some (.int .i32 1):=by simp[World.cell?,eL]
  have g3:w2.frozen? ⟨mb,2,none⟩=false:=by simp[World.frozen?,eL]
  go_region_held3 (fun w'=>w'.cell? ⟨mb,1,none⟩=some (.iface 219 (.pointer (some ⟨ob,0,none⟩)))) (go_keep) ((go_at_call 236;refine(hU _).mono ?_;rintro e w3 ⟨rfl,rfl⟩))
  go_wp2
  refine leaves_cons (f:=109) (args:=#[.pointer (some ⟨mb,2,none⟩)]) (by simp) (by simp[go_sem]) ?_
  refine(unlock_deferred Tryz.muLib ⟨mb,2,none⟩ .returning w2.drew g2 g3).mono ?_
  rintro e u' w'' ⟨rfl,rfl,rfl⟩
  rw[HM.out]
  have eO:=iF.mk5 (w5:=w2.drew) (b0:=b0) (M':=ie C { M with ent:=pg M.ent k r } k) iJ (by rw[hH];exact eL) pF (by rw[hE];exact Gy) ts fm ew iw (fun GF=>by rw[hP];exact(qaI GF).kept (aa.refl (fun _=>False) w2).drew (fun _ _ _ _ _ _ x=>x)) (fun lO=>by omega) (by rw[hH];exact Qk)
  exact⟨_,results_none rfl _ _ _,rfl,⟨eb,ob,EL,eO⟩,aa.setCell (S:=Mw b0 w) ((co.mono (T:=Mw b0 w) (fun j _ hj=>ET j hj)).drew) (p:=⟨mb,2,none⟩) (fun _=>ET mb (.inl rfl)) _⟩
 ·have yL:iU C ob=.iface 221 (.pointer (some ⟨ob,0,none⟩)):=by unfold iU aw;rw[if_neg (by omega),if_pos hp]
  have SI:=xG
  have hU:=BV (show im w2.drew b0 ob C.bud EL M.ord from(SS hp).kept (aa.refl (fun _=>False) w2).drew (fun x=>x) (fun _ _ x=>x)) ts eP
  unfold aw at hU
  have g1:w2.cell? ⟨mb,1,none⟩=some (.iface 221 (.pointer (some ⟨ob,0,none⟩))):=by rw[<-yL];simp[World.cell?,eL]
  have KA:¬(mb=ob\/∃x∈EL,x.2=mb):=fun e=>by
   rcases e with e | ⟨x,hx,e⟩
   ·exact(oF.2.1 iw).1 e.symm
   ·exact(oF.2.2 x hx).1 e
  have uB:mb<w2.drew.heap.size:=ag (show ai w2 mb=_ from eL)
  go_region_held3 (fun w'=>w'.cell? ⟨mb,1,none⟩=some (.iface 221 (.pointer (some ⟨ob,0,none⟩)))) (go_keep) ((go_at_call 240;refine hU.mono ?_;rintro e w3 ⟨rfl,ho3,Gx,ff⟩;have g1':w3.cell? ⟨mb,1,none⟩=some (.iface 221 (.pointer (some ⟨ob,0,none⟩))):=(ff.cell (p:=⟨mb,1,none⟩) uB KA).trans g1))
  have dY:=(ff.block mb uB KA).trans eL
  have g2:w3.cell? ⟨mb,2,none⟩=some (.int .i32 1):=by simp[World.cell?,dY]
  have g3:w3.frozen? ⟨mb,2,none⟩=false:=by simp[World.frozen?,dY]
  go_wp2
  refine leaves_cons (f:=109) (args:=#[.pointer (some ⟨mb,2,none⟩)]) (by simp) (by simp[go_sem]) ?_
  refine(unlock_deferred Tryz.muLib ⟨mb,2,none⟩ .returning w3 g2 g3).mono ?_
  rintro e u' w'' ⟨rfl,rfl,rfl⟩
  rw[HM.out]
  have kv:ei w3 eb EL:=pF.same (ff.block eb pF.lt (fun e=>by
   rcases e with e | ⟨x,hx,e⟩
   ·exact(oF.2.1 iw).2 e.symm
   ·exact(oF.2.2 x hx).2.1 e))
  have eO:=iF.mk5 (w5:=w3) (b0:=b0) (M':=ie C { M with ent:=pg M.ent k r } k) iJ (by rw[hH];exact dY) kv (by
   rw[hE]
   exact Gy.mono (fun a b _ gu=>⟨gu.1,by obtain⟨q,h1,h2⟩:=gu.2;exact⟨q,Gx _ _ _ h1,h2⟩⟩)) ts fm ew iw (fun GF=>by omega) (fun lO=>by
   have:(ie C { M with ent:=pg M.ent k r } k).ord=k :: M.ord.erase k:=by unfold ie;rw[if_pos lO]
   rw[this];exact ho3) (by rw[hH];exact Qk)
  exact⟨_,results_none rfl _ _ _,rfl,⟨eb,ob,EL,eO⟩,aa.setCell (S:=Mw b0 w) ((co.drew.trans (ff.mono (fun j _ e=>Or.inr e))).mono (T:=Mw b0 w) (fun j _ hj=>ET j hj)) (p:=⟨mb,2,none⟩) (fun _=>ET mb (.inl rfl)) _⟩
end Go.Proofs.YtagklnaaoclmhaaGreatDoor
