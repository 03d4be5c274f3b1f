import Derived.Test.YtagklnaaoclmhaaGreatDoorMnAK
set_option linter.unusedSimpArgs false
set_option linter.unusedVariables false
set_option maxRecDepth 100000
set_option maxHeartbeats 16000000
namespace Go.Proofs.YtagklnaaoclmhaaGreatDoor
open Go.RowKit
def ye (l:List Nd):List Nat:=(l.filter (fun N=>N.kind == 3)).map Nd.at_
theorem s8 (l m:List Nd):ye (l++m)=ye l++ye m:=by simp[ye]
theorem zV {N:Nd}(h:N.kind≠3):ye [N]=[]:=by simp[ye,h]
structure ox (A B:St):Prop where
 ge:A.sc.at_<=B.sc.at_
 ns:∃l,B.ns=A.ns++l/\(ye l).Pairwise (·<·)/\∀a∈ye l,A.sc.at_<=a/\a<B.sc.at_
theorem ox.refl (A:St):ox A A:=⟨Nat.le_refl _,[],by simp,by simp[ye],by simp[ye]⟩
theorem ox.trans {A B C:St}(h:ox A B)(k:ox B C):ox A C:=by
 obtain⟨l,h1,h2,h3⟩:=h.ns
 obtain⟨m,k1,k2,k3⟩:=k.ns
 have hg:=h.ge
 have kg:=k.ge
 refine⟨Nat.le_trans h.ge k.ge,l++m,by rw[k1,h1,List.append_assoc],?_,?_⟩
 ·rw[s8,List.pairwise_append]
  refine⟨h2,k2,fun a ha b hb=>?_⟩
  have:=(h3 a ha).2
  have:=(k3 b hb).1
  omega
 ·intro a ha
  rw[s8]at ha
  rcases List.mem_append.1 ha with x | x
  ·have:=h3 a x;omega
  ·have:=k3 a x;omega
theorem ox.sc {A B:St}(h:ox A B){g:Sc}(hg:B.sc.at_<=g.at_):ox A { B with sc:=g }:=by
 obtain⟨l,h1,h2,h3⟩:=h.ns
 exact⟨Nat.le_trans h.ge hg,l,h1,h2,fun a ha=>⟨(h3 a ha).1,Nat.lt_of_lt_of_le (h3 a ha).2 hg⟩⟩
theorem ox.pre {A B:St}{g:Sc}(hg:A.sc.at_<=g.at_)(h:ox { A with sc:=g } B):ox A B:=by
 obtain⟨l,h1,h2,h3⟩:=h.ns
 exact⟨Nat.le_trans hg h.ge,l,h1,h2,fun a ha=>⟨Nat.le_trans hg (h3 a ha).1,(h3 a ha).2⟩⟩
theorem ox.add {A B:St}(h:ox A B){N:Nd}(hN:N.kind≠3):ox A (aP B N).1:=by
 obtain⟨l,h1,h2,h3⟩:=h.ns
 refine⟨h.ge,l++[N],by show B.ns++[N]=_;rw[h1,List.append_assoc],?_,?_⟩
 ·rw[s8,zV hN,List.append_nil];exact h2
 ·rw[s8,zV hN,List.append_nil];exact h3
def mg (s:ByteArray)(ch:St->St × Nat)(d:Nat):Prop:=∀A,Iv s A.sc->5<=A.sc.op+d->(ch A).1.sc.bad<0->ox A (ch A).1
theorem ox.plain {A:St}{g:Sc}{N:Nd}(hN:N.kind≠3)(hg:A.sc.at_<=g.at_):ox A (aP { A with sc:=g } N).1:=((ox.refl A).sc hg).add hN
theorem LE {s:ByteArray}{ch:St->St × Nat}{d:Nat}(hg:d=0\/eN s ch (d-1))(ho:d=0\/mg s ch (d-1)):mg s (aR s ch) d:=by
 intro A hi hd hb
 have zJ:=(nA (s:=s) hg hi hd).ge
 have qw:=jK s A.sc
 revert zJ hb
 unfold aR
 split
 ·intro hb zJ
  have hw:=(gN (s:=s) (g:=bl s A.sc) hi.bl).2.2 hb
  refine⟨zJ,[_],rfl,by simp[ye],fun a ha=>?_⟩
  simp[ye]at ha
  subst ha
  exact⟨qw,hw⟩
 ·split
  ·intro hb zJ;exact ox.plain (by simp[cj]) zJ
  ·split
   ·intro hb zJ;exact ox.plain (by simp[cj]) zJ
   ·split
    ·intro hb zJ;exact ox.plain (by simp[cj]) zJ
    ·split
     ·next hc=>
      intro hb zJ
      have rx:=ip s A.sc
      have Ke:d≠0:=by have:=hc.2;omega
      have hpp:=cT (s:=s) (g:=bl s A.sc) (by omega)
      have AD:Iv s (ez (bl s A.sc)):=⟨fun _=>by simp[ez];omega,by simp[ez];omega⟩
      have tf:5<=(ez (bl s A.sc)).op+(d-1):=by dsimp only[ez];omega
      have h1:=ho.resolve_left Ke { A with sc:=ez (bl s A.sc) } AD tf
      have h2:=hg.resolve_left Ke { A with sc:=ez (bl s A.sc) } AD tf
      generalize ch { A with sc:=ez (bl s A.sc) }=X at *
      have eL:(mu s X.1.sc 41).bad<0:=hb
      have dY:=(Fs.mu h2.iv 41).good eL
      have h3:=(h1 dY).sc (g:=oS (mu s X.1.sc 41)) (Fh s X.1.sc 41)
      exact ox.pre (g:=ez (bl s A.sc)) (by simp[ez];omega) h3
     ·intro hb zJ
      exact ox.plain (by simp[cj]) zJ
theorem Lc {s:ByteArray}{ch:St->St × Nat}{d:Nat}(hg:d=0\/eN s ch (d-1))(ho:d=0\/mg s ch (d-1)):mg s (bP s ch) d:=by
 intro A hi hd hb
 obtain⟨f1,f2,f3⟩:=gX hi
 have hp:=LE hg ho { A with sc:=bn s A.sc } f1.iv (by rw[show ({ A with sc:=bn s A.sc }:St).sc.op=A.sc.op from f1.op];exact hd)
 revert hb
 unfold bP
 generalize aR s ch { A with sc:=bn s A.sc }=X at *
 have hr:(cG s X).1.sc.bad<0->ox { A with sc:=bn s A.sc } (cG s X).1:=by
  unfold cG
  have kM:=ed s X.1.sc
  have qw:=jK s X.1.sc
  split
  ·next hk=>
   intro hb
   have jq:(bM (bl s X.1.sc)).bad<0:=hb
   have hX:=hp (by rw[<-kM];exact jq)
   have ff:bm (pk s (bl s X.1.sc))≠3:=by unfold bm;(repeat' split) <;> omega
   exact(hX.sc (g:=bM (bl s X.1.sc)) (by rw[bZ];omega)).add (N:={ cj with kind:=bm (pk s (bl s X.1.sc)),subs:=[X.2] }) ff
  ·intro hb
   have jq:(bl s X.1.sc).bad<0:=hb
   exact(hp (by rw[<-kM];exact jq)).sc qw
 generalize cG s X=R at *
 unfold eG
 split
 ·next hk=>
  intro hb
  have ff:cY s A.sc≠3:=by unfold cY;(repeat' split) <;> omega
  exact ox.pre f1.ge ((hr hb).add (N:={ cj with kind:=cY s A.sc,subs:=[R.2] }) ff)
 ·intro hb
  exact ox.pre f1.ge (hr hb)
theorem BD {s:ByteArray}{ch:St->St × Nat}{d:Nat}(hg:d=0\/eN s ch (d-1))(ho:d=0\/mg s ch (d-1)):∀f acc A,Iv s A.sc->5<=A.sc.op+d->(dk s ch f acc A).1.sc.bad<0->ox A (dk s ch f acc A).1
 | 0,acc,A,_,_,_=>ox.refl A
 | f+1,acc,A,hi,hd,hb=>by
  have hp:=Lc hg ho A hi hd
  have hf:=nk (s:=s) hg hi hd
  rw[dk]at hb ⊢
  generalize bP s ch A=X at *
  have kM:=ed s X.1.sc
  have qw:=jK s X.1.sc
  split
  ·next hc=>
   rw[if_pos hc]at hb
   have jq:(bl s X.1.sc).bad<0:=hb
   exact(hp (by rw[<-kM];exact jq)).sc qw
  ·next hc=>
   rw[if_neg hc]at hb
   have fK:(bl s X.1.sc).bad<0:=by
    have h1:du s (bl s X.1.sc)=false:=by simpa using hc
    unfold du at h1
    simp only[Bool.or_eq_false_iff,Bool.not_eq_false']at h1
    exact(cS.1 h1.1.1.1).1
   have h1:=(hp (by rw[<-kM];exact fK)).sc (g:=bl s X.1.sc) qw
   exact h1.trans (BD hg ho f _ _ hf.iv.bl (by rw[show ({ X.1 with sc:=bl s X.1.sc }:St).sc.op=X.1.sc.op from ip s X.1.sc,hf.op];exact hd) hb)
theorem Pn {s:ByteArray}{ch:St->St × Nat}{d:Nat}(hg:d=0\/eN s ch (d-1))(ho:d=0\/mg s ch (d-1)):mg s (eT s ch) d:=by
 intro A hi hd hb
 exact(BD hg ho (s.size+3) [] A hi hd hb).add (N:={ cj with kind:=5,subs:=(dk s ch (s.size+3) [] A).2 }) (by simp)
theorem Af {s:ByteArray}{ch:St->St × Nat}{d:Nat}(hg:d=0\/eN s ch (d-1))(ho:d=0\/mg s ch (d-1)):∀f acc A,Iv s A.sc->5<=A.sc.op+d->(dD s ch f acc A).1.sc.bad<0->ox A (dD s ch f acc A).1
 | 0,acc,A,_,_,_=>ox.refl A
 | f+1,acc,A,hi,hd,hb=>by
  have hp:=Pn hg ho A hi hd
  have hf:=rJ (s:=s) hg hi hd
  rw[dD]at hb ⊢
  generalize eT s ch A=X at *
  have kM:=eJ s X.1.sc 47
  have qw:=BJ s X.1.sc 47
  split
  ·next hc=>
   rw[if_pos hc]at hb
   have fK:X.1.sc.bad<0:=by
    rcases Int.lt_or_le X.1.sc.bad 0 with h | h
    ·exact h
    ·rw[nB 47 h]at hc;cases hc
   have h1:=(hp fK).sc (g:=sg s X.1.sc 47) qw
   exact h1.trans (Af hg ho f _ _ (hf.iv.sg 47) (by rw[show ({ X.1 with sc:=sg s X.1.sc 47 }:St).sc.op=X.1.sc.op from qa s X.1.sc 47,hf.op];exact hd) hb)
  ·next hc=>
   rw[if_neg hc]at hb
   have jq:(sg s X.1.sc 47).bad<0:=hb
   exact(hp (by rw[<-kM];exact jq)).sc qw
theorem Eo {s:ByteArray}{ch:St->St × Nat}{d:Nat}(hg:d=0\/eN s ch (d-1))(ho:d=0\/mg s ch (d-1)):mg s (jU s ch) d:=by
 intro A hi hd hb
 exact(Af hg ho (s.size+3) [] A hi hd hb).add (N:={ cj with kind:=4,subs:=(dD s ch (s.size+3) [] A).2 }) (by simp)
theorem Ae (s:ByteArray):∀d,mg s (dw s (d+1)) d
 | 0=>Eo (.inl rfl) (.inl rfl)
 | d+1=>Eo (d:=d+1) (.inr (eH s d)) (.inr (Ae s d))
theorem LQ {s:ByteArray}{X:St}(h:Ok s X)(ho:X.sc.op=0)(hb:X.sc.bad<0)(hg:(de s X).1.sc.bad<0):
  X.sc.at_<=(de s X).2.at_/\∃l,(de s X).1.ns=X.ns++l/\(ye l).Pairwise (·<·)/\(∀a∈ye l,(de s X).2.at_<a/\a<(de s X).1.sc.at_)/\(de s X).2.at_<(de s X).1.sc.at_:=by
 obtain⟨k1,-,-,k4,-⟩:=jQ h ho hb
 obtain⟨w1,w2,w3⟩:=gN h.iv
 have hc:=eH s 5 { X with sc:=mu s (bz s X.sc).2 61 } k1.iv (by rw[show ({ X with sc:=mu s (bz s X.sc).2 61 }:St).sc.op=0 from k4];decide)
 have hO:=Ae s 5 { X with sc:=mu s (bz s X.sc).2 61 } k1.iv (by rw[show ({ X with sc:=mu s (bz s X.sc).2 61 }:St).sc.op=0 from k4];decide)
 have hw:=vr s X.sc
 have hmg:=Fh s (bz s X.sc).2 61
 have iB:=jK s X.sc
 have hwd:(bz s X.sc).2.at_=(bl s X.sc).at_+(bz s X.sc).1.length/\((bz s X.sc).2.bad<0->0<(bz s X.sc).1.length):=by
  have hh:∀f acc g,(wd s f acc g).2.at_+acc.length=g.at_+(wd s f acc g).1.length:=by
   intro f
   induction f with
   | zero=>intro acc g;rfl
   | succ f ih=>
    intro acc g
    rw[wd]
    split
    ·split
     ·show (wr g).at_+_=_
      rw[eS]
     ·have:=ih (acc++[(pk s g).toUInt8]) (bM g)
      rw[List.length_append,bZ]at this
      simp only[List.length_cons,List.length_nil]at this
      omega
    ·show (if acc=[] then wr g else g).at_+_=_
     split
     ·rw[eS]
     ·rfl
  have h1:(bz s X.sc).2.at_=(bl s X.sc).at_+(bz s X.sc).1.length:=by
   have:=hh 10 [] (bl s X.sc)
   simp only[List.length_nil,Nat.add_zero]at this
   exact this
  refine⟨h1,fun hx=>?_⟩
  have:=(gN (s:=s) (g:=bl s X.sc) h.iv.bl).2.2
  have hid:bz s (bl s X.sc)=bz s X.sc:=by
   unfold bz
   have:bl s (bl s X.sc)=bl s X.sc:=by
    have kM:(bl s X.sc).bad<0:=by rw[ed];exact hb
    by_cases hq:(bl s X.sc).at_<s.size/\am s (bl s X.sc).at_=32
    ·exfalso
     have h1:bl s X.sc={ X.sc with at_:=dh s (s.size-X.sc.at_) X.sc.at_ }:=by unfold bl;rw[if_pos hb]
     have key:∀f i,s.size<=i+f->¬(dh s f i<s.size/\am s (dh s f i)=32):=by
      intro f
      induction f with
      | zero=>intro i h;simp only[dh];omega
      | succ f ih=>
       intro i h
       rw[dh]
       split
       ·exact ih (i+1) (by omega)
       ·next hn=>exact hn
     rw[h1]at hq
     exact key (s.size-X.sc.at_) X.sc.at_ (by omega) hq
    ·exact wT (k:=(bl s X.sc).at_) (fun _=>rfl) (fun _=>rfl) (fun _ x=>hq x)
   rw[this]
  rw[hid]at this
  have:=this hx
  omega
 have hX:de s X=({ (dw s (5+1) { X with sc:=mu s (bz s X.sc).2 61 }).1 with sc:=mu s (dw s (5+1) { X with sc:=mu s (bz s X.sc).2 61 }).1.sc 10 },⟨(bz s X.sc).1,(bz s X.sc).2.at_-(bz s X.sc).1.length,(dw s (5+1) { X with sc:=mu s (bz s X.sc).2 61 }).2⟩):=rfl
 rw[hX]at hg ⊢
 generalize dw s (5+1) { X with sc:=mu s (bz s X.sc).2 61 }=Y at *
 have nP:(mu s Y.1.sc 10).bad<0:=hg
 have dE:=(Fs.mu hc.iv 10).good nP
 have eL:(mu s (bz s X.sc).2 61).bad<0:=hc.good dE
 have dY:(bz s X.sc).2.bad<0:=(Fs.mu w1.iv 61).good eL
 have mE:=hwd.2 dY
 have mx:=hO dE
 obtain⟨l,e1,e2,e3⟩:=mx.ns
 have zJ:=mx.ge
 have AN:=Fh s Y.1.sc 10
 dsimp only at *
 refine⟨by omega,l,e1,e2,fun a ha=>?_,by omega⟩
 have:=e3 a ha
 omega
theorem Dy:∀(l:List Nd) (o:Nat),(l6 o l).map Mn.at_=ye l
 | [],o=>rfl
 | N :: l,o=>by
  rw[l6,List.map_append,Dy l (o+1)]
  by_cases h:N.kind=3
  ·rw[if_pos h];simp[ye,h]
  ·rw[if_neg h];simp[ye,h]
theorem Ff:∀(l:List Nd) (o:Nat) (m:Mn),m∈l6 o l ↔ ∃i,i<l.length/\(ap l i).kind=3/\m=⟨(ap l i).name,(ap l i).at_,some (o+i)⟩
 | [],o,m=>by simp[l6]
 | N :: l,o,m=>by
  rw[l6,List.mem_append,Ff l (o+1) m]
  constructor
  ·rintro(h | ⟨i,h1,h2,h3⟩)
   ·split at h
    ·next hk=>
     rw[List.mem_singleton.1 h]
     exact⟨0,by simp,hk,rfl⟩
    ·cases h
   ·exact⟨i+1,by simp;omega,h2,by rw[h3,show o+1+i=o+(i+1) by omega];rfl⟩
  ·rintro⟨i,h1,h2,h3⟩
   cases i with
   | zero=>left;rw[if_pos (show N.kind=3 from h2),h3];simp[ap]
   | succ i=>exact .inr ⟨i,by simpa using h1,h2,by rw[h3,show o+1+i=o+(i+1) by omega];rfl⟩
structure ow (ms:List Mn)(rs:List Rl)(ns:List Nd)(p:Nat):Prop where
 mem:∀m,m∈ms ↔ (m.part=none/\∃r∈rs,r.name=m.name/\r.at_=m.at_)\/(∃i,m.part=some i/\i<ns.length/\(ap ns i).kind=3/\(ap ns i).name=m.name/\(ap ns i).at_=m.at_)
 srt:(ms.map Mn.at_).Pairwise (·<·)
 lt:∀m∈ms,m.at_<p
 rsrt:(rs.map Rl.at_).Pairwise (·<·)
 rlt:∀r∈rs,r.at_<p
 len:ms.length<=ns.length+rs.length
theorem ow.nil:ow [] [] [] 0:=⟨fun m=>by simp,by simp,by simp,by simp,by simp,by simp⟩
theorem ny {l m:List Nd}{i:Nat}(h:i<l.length):ap (l++m) i=ap l i:=bo h
theorem nz {l m:List Nd}{i:Nat}:ap (l++m) (l.length+i)=ap m i:=by
 unfold ap;rw[cn (by omega)];congr 1;omega
theorem ow.rule {ms:List Mn}{rs:List Rl}{ns l:List Nd}{p q:Nat}{r:Rl}(h:ow ms rs ns p)(h1:p<=r.at_)(h2:(ye l).Pairwise (·<·))(h3:∀a∈ye l,r.at_<a/\a<q)(h4:r.at_<q):
  ow (ms++[⟨r.name,r.at_,none⟩]++l6 ns.length l) (rs++[r]) (ns++l) q:=by
 have hl:∀m∈l6 ns.length l,r.at_<m.at_/\m.at_<q:=fun m hm=>h3 _ (by rw[<-Dy l ns.length];exact List.mem_map_of_mem hm)
 refine⟨fun m=>?_,?_,fun m hm=>?_,?_,fun x hx=>?_,?_⟩
 ·rw[List.mem_append,List.mem_append,h.mem,Ff,List.mem_singleton]
  constructor
  ·rintro((h5 | h5) | ⟨i,e1,e2,e3⟩)
   ·rcases h5 with⟨e0,x,hx,e1,e2⟩ | ⟨i,e0,e1,e2,e3,e4⟩
    ·exact .inl ⟨e0,x,List.mem_append_left _ hx,e1,e2⟩
    ·exact .inr ⟨i,e0,by simp;omega,by rw[ny e1];exact e2,by rw[ny e1];exact e3,by rw[ny e1];exact e4⟩
   ·rw[h5];exact .inl ⟨rfl,r,List.mem_append_right _ (List.mem_singleton.2 rfl),rfl,rfl⟩
   ·rw[e3]
    exact .inr ⟨ns.length+i,rfl,by simp;omega,by rw[nz];exact e2,by rw[nz],by rw[nz]⟩
  ·rintro(⟨e0,x,hx,e1,e2⟩ | ⟨i,e0,e1,e2,e3,e4⟩)
   ·rcases List.mem_append.1 hx with hx | hx
    ·exact .inl (.inl (.inl ⟨e0,x,hx,e1,e2⟩))
    ·rw[List.mem_singleton.1 hx]at e1 e2
     refine .inl (.inr ?_)
     obtain⟨mn,ma,mp⟩:=m
     dsimp only at *
     rw[e0,e1,e2]
   ·by_cases hi:i<ns.length
    ·rw[ny hi]at e2 e3 e4
     exact .inl (.inl (.inr ⟨i,e0,hi,e2,e3,e4⟩))
    ·obtain⟨j,rfl⟩:∃j,i=ns.length+j:=⟨i-ns.length,by omega⟩
     rw[nz]at e2 e3 e4
     refine .inr ⟨j,by simp at e1;omega,e2,?_⟩
     obtain⟨mn,ma,mp⟩:=m
     dsimp only at *
     rw[e0,e3,e4]
 ·rw[List.map_append,List.map_append,Dy,List.pairwise_append,List.pairwise_append]
  refine⟨⟨h.srt,by simp,fun a ha b hb=>?_⟩,h2,fun a ha b hb=>?_⟩
  ·obtain⟨m,hm,rfl⟩:=List.mem_map.1 ha
   simp at hb
   have:=h.lt m hm
   omega
  ·have jq:=h3 b hb
   rcases List.mem_append.1 ha with ha | ha
   ·obtain⟨m,hm,rfl⟩:=List.mem_map.1 ha
    have:=h.lt m hm
    omega
   ·simp at ha;omega
 ·rcases List.mem_append.1 hm with hm | hm
  ·rcases List.mem_append.1 hm with hm | hm
   ·have:=h.lt m hm;omega
   ·rw[List.mem_singleton.1 hm];exact h4
  ·exact(hl m hm).2
 ·rw[List.map_append,List.pairwise_append]
  refine⟨h.rsrt,by simp,fun a ha b hb=>?_⟩
  obtain⟨x,hx,rfl⟩:=List.mem_map.1 ha
  simp at hb
  have:=h.rlt x hx
  omega
 ·rcases List.mem_append.1 hx with hx | hx
  ·have:=h.rlt x hx;omega
  ·rw[List.mem_singleton.1 hx];exact h4
 ·have:=h.len
  have:=Fe l ns.length
  simp
  omega
def oA (rs:List Rl)(m:Mn):Bool:=match m.part with
 | none=>decide ((rs.map Rl.at_).getD ((dg rs m.name).getD 0) 0≠m.at_)
 | some _=>decide (dg rs m.name=none)
theorem EF {rs:List Rl}{nm:List UInt8}:j9 rs nm<0 ↔ dg rs nm=none:=by
 unfold j9
 cases dg rs nm <;> simp <;> omega
def x9 (x:Int)(Q:Nat->Prop):Prop:=(x<0/\∀a,¬Q a)\/(0<=x/\Q x.toNat/\∀a,Q a->x<=(a:Int))
theorem x9.more {x:Int}{Q:Nat->Prop}(h:x9 x Q)(a:Nat):x9 (lo x a) (fun b=>Q b\/b=a):=by
 unfold lo
 rcases h with⟨h1,h2⟩ | ⟨h1,h2,h3⟩
 ·rw[if_pos (.inl h1)]
  exact .inr ⟨by omega,.inr (by simp),fun b hb=>by
   rcases hb with hb | hb
   ·exact absurd hb (h2 b)
   ·rw[hb];omega⟩
 ·split
  ·next hc=>
   have si:(a:Int)<x:=by omega
   exact .inr ⟨by omega,.inr (by simp),fun b hb=>by
    rcases hb with hb | hb
    ·have:=h3 b hb;omega
    ·rw[hb];omega⟩
  ·next hc=>exact .inr ⟨h1,.inl h2,fun b hb=>by
    rcases hb with hb | hb
    ·exact h3 b hb
    ·rw[hb];omega⟩
theorem x9.iff {x:Int}{Q R:Nat->Prop}(h:x9 x Q)(he:∀a,Q a ↔ R a):x9 x R:=by
 rcases h with⟨h1,h2⟩ | ⟨h1,h2,h3⟩
 ·exact .inl ⟨h1,fun a ha=>h2 a ((he a).2 ha)⟩
 ·exact .inr ⟨h1,(he _).1 h2,fun a ha=>h3 a ((he a).2 ha)⟩
theorem oO (rs:List Rl):∀k,x9 (kz rs k) (fun a=>∃j,j<k/\j9 rs ((rs.map Rl.name).getD j [])<j/\a=(rs.map Rl.at_).getD j 0)
 | 0=>.inl ⟨by simp[kz],fun a ⟨j,hj,_⟩=>by omega⟩
 | k+1=>by
  rw[kz]
  split
  ·next hc=>
   refine((oO rs k).more _).iff (fun a=>?_)
   constructor
   ·rintro(⟨j,h1,h2,h3⟩ | h)
    ·exact⟨j,by omega,h2,h3⟩
    ·exact⟨k,by omega,hc,h⟩
   ·rintro⟨j,h1,h2,h3⟩
    by_cases hj:j=k
    ·subst hj;exact .inr h3
    ·exact .inl ⟨j,by omega,h2,h3⟩
  ·next hc=>
   refine(oO rs k).iff (fun a=>?_)
   constructor
   ·rintro⟨j,h1,h2,h3⟩;exact⟨j,by omega,h2,h3⟩
   ·rintro⟨j,h1,h2,h3⟩
    by_cases hj:j=k
    ·subst hj;exact absurd h2 hc
    ·exact⟨j,by omega,h2,h3⟩
theorem oN (rs:List Rl)(ns:List Nd):∀k,x9 (iT rs ns k) (fun a=>(∃j,j<rs.length/\j9 rs ((rs.map Rl.name).getD j [])<j/\a=(rs.map Rl.at_).getD j 0)\/(∃j,j<k/\((ns.map Nd.kind).getD j 0=3/\j9 rs ((ns.map Nd.name).getD j [])<0)/\a=(ns.map Nd.at_).getD j 0))
 | 0=>(oO rs rs.length).iff (fun a=>⟨.inl,fun h=>by
   rcases h with h | ⟨j,hj,_⟩
   ·exact h
   ·omega⟩)
 | k+1=>by
  rw[iT]
  split
  ·next hc=>
   refine((oN rs ns k).more _).iff (fun a=>?_)
   constructor
   ·rintro((h | ⟨j,h1,h2,h3⟩) | h)
    ·exact .inl h
    ·exact .inr ⟨j,by omega,h2,h3⟩
    ·exact .inr ⟨k,by omega,hc,h⟩
   ·rintro(h | ⟨j,h1,h2,h3⟩)
    ·exact .inl (.inl h)
    ·by_cases hj:j=k
     ·subst hj;exact .inr h3
     ·exact .inl (.inr ⟨j,by omega,h2,h3⟩)
  ·next hc=>
   refine(oN rs ns k).iff (fun a=>?_)
   constructor
   ·rintro(h | ⟨j,h1,h2,h3⟩)
    ·exact .inl h
    ·exact .inr ⟨j,by omega,h2,h3⟩
   ·rintro(h | ⟨j,h1,h2,h3⟩)
    ·exact .inl h
    ·by_cases hj:j=k
     ·subst hj;exact absurd h2 hc
     ·exact .inr ⟨j,by omega,h2,h3⟩
theorem uj {rs:List Rl}{j:Nat}(hj:j<rs.length):∃i,dg rs rs[j].name=some i/\i<=j:=by
 unfold dg
 cases h:rs.findIdx? (fun r=>r.name == rs[j].name) with
 | none=>
  have:=List.findIdx?_eq_none_iff.1 h rs[j] (List.getElem_mem hj)
  simp at this
 | some i=>
  refine⟨i,rfl,?_⟩
  obtain⟨h1,h2,h3⟩:=List.findIdx?_eq_some_iff_getElem.1 h
  rcases Nat.lt_or_ge j i with bj | zJ
  ·have:=h3 j bj
   simp at this
  ·exact zJ
theorem ow.least {ms:List Mn}{rs:List Rl}{ns:List Nd}{p:Nat}(h:ow ms rs ns p):x9 (uN rs ns) (fun a=>∃m∈ms,oA rs m=true/\a=m.at_):=by
 refine(oN rs ns ns.length).iff (fun a=>?_)
 have Cg:∀i j,i<j->j<rs.length->(rs.map Rl.at_).getD i 0<(rs.map Rl.at_).getD j 0:=by
  intro i j Oj hj
  rw[bQ _ _ _ _ (by omega),bQ _ _ _ _ hj]
  have:=List.pairwise_iff_getElem.1 h.rsrt i j (by simp;omega) (by simpa using hj) Oj
  simpa using this
 constructor
 ·rintro(⟨j,h1,h2,h3⟩ | ⟨j,h1,h2,h3⟩)
  ·rw[bQ _ _ _ _ h1]at h2 h3
   refine⟨⟨rs[j].name,rs[j].at_,none⟩,(h.mem _).2 (.inl ⟨rfl,rs[j],List.getElem_mem h1,rfl,rfl⟩),?_,h3⟩
   obtain⟨i,hi,Oj⟩:=uj h1
   unfold j9 at h2
   rw[hi]at h2
   unfold oA
   simp only[hi,Option.getD_some]
   have:=Cg i j (by simp at h2;omega) h1
   rw[bQ _ _ j _ h1]at this
   simp
   simp at this
   omega
  ·rw[bQ _ _ _ _ h1,bQ _ _ _ _ h1]at h2
   rw[bQ _ _ _ _ h1]at h3
   refine⟨⟨ns[j].name,ns[j].at_,some j⟩,(h.mem _).2 (.inr ⟨j,rfl,h1,?_,?_,?_⟩),?_,h3⟩
   ·rw[bA h1];exact h2.1
   ·rw[bA h1]
   ·rw[bA h1]
   ·unfold oA;simp[EF.1 h2.2]
 ·rintro⟨m,hm,hb,rfl⟩
  rcases(h.mem m).1 hm with⟨e0,r,hr,e1,e2⟩ | ⟨i,e0,e1,e2,e3,e4⟩
  ·obtain⟨j,hj,rfl⟩:=List.getElem_of_mem hr
   refine .inl ⟨j,hj,?_,by rw[bQ _ _ _ _ hj];exact e2.symm⟩
   obtain⟨i,hi,Oj⟩:=uj hj
   rw[bQ _ _ _ _ hj]
   unfold j9
   rw[hi]
   unfold oA at hb
   rw[e0,<-e1]at hb
   simp only[hi,Option.getD_some,decide_eq_true_eq]at hb
   rcases Nat.lt_or_eq_of_le Oj with bj | Sp
   ·simp;omega
   ·subst Sp
    rw[bQ _ _ _ _ hj]at hb
    exact absurd e2 hb
  ·refine .inr ⟨i,e1,?_,by rw[bQ _ _ _ _ e1,<-bA e1];exact e4.symm⟩
   rw[bQ _ _ _ _ e1,bQ _ _ _ _ e1,<-bA e1]
   refine⟨e2,?_⟩
   unfold oA at hb
   rw[e0]at hb
   rw[e3]
   exact EF.2 (by simpa using hb)
theorem ow.first {ms:List Mn}{rs:List Rl}{ns:List Nd}{p:Nat}(h:ow ms rs ns p){q:Nat}(hq:q<ms.length)(h1:∀j (hj:j<ms.length),j<q->oA rs ms[j]=false)(h2:oA rs ms[q]=true):uN rs ns=(ms[q].at_:Int):=by
 rcases h.least with⟨_,h4⟩ | ⟨h3,⟨m,hm,hb,he⟩,h5⟩
 ·exact absurd ⟨ms[q],List.getElem_mem hq,h2,rfl⟩ (h4 ms[q].at_)
 ·have h6:=h5 _ ⟨ms[q],List.getElem_mem hq,h2,rfl⟩
  obtain⟨j,hj,rfl⟩:=List.getElem_of_mem hm
  rcases Nat.lt_trichotomy j q with bj | Sp | Cg
  ·rw[h1 j hj bj]at hb;cases hb
  ·subst Sp;omega
  ·have:=List.pairwise_iff_getElem.1 h.srt q j (by simpa using hq) (by simpa using hj) Cg
   simp at this
   omega
theorem ow.none {ms:List Mn}{rs:List Rl}{ns:List Nd}{p:Nat}(h:ow ms rs ns p)(h1:∀j (hj:j<ms.length),oA rs ms[j]=false):uN rs ns<0:=by
 rcases h.least with⟨h3,_⟩ | ⟨h3,⟨m,hm,hb,he⟩,h5⟩
 ·exact h3
 ·obtain⟨j,hj,rfl⟩:=List.getElem_of_mem hm
  rw[h1 j hj]at hb;cases hb
def Tg (gb:Nat)(rv:Value)(k:Nat):Prop:=k=gb\/rv.ownBlock=some k
structure Vs (base b:Nat)(s:ByteArray)(mv:Mv)(w:World)(X:St × List Rl)(e:Ending)(w':World):Prop where
 ok:X.1.sc.bad<0->∃mv' P ms gb rv z,z=(mv'.L.length:Int)/\e=.returned (.tuple #[.pointer (some ⟨gb,0,none⟩),.bool true])/\w'.heap[gb]?=some (.cells #[rv,.int .i64 z] 150)/\w'.ownsRow base 189 3 rv X.2.length (X.2.flatMap (uW P))/\CR w' base b s mv' (Tg gb rv) P ms X.1/\ow ms X.2 X.1.ns X.1.sc.at_/\Cs b mv mv' w w'
 no:0<=X.1.sc.bad->e=.returned (.tuple #[.pointer none,.bool false])/\tI w w' b s mv X.1.sc.bad
theorem Tu:(Tryz.prog.info? 189).map (fun i=>(i.zero,i.size,i.bytes))=some (some (.agg #[.string ⟨#[]⟩,.int .i64 0,.pointer none]),3,32):=by kernel_rfl
structure GrI (base b:Nat)(s:ByteArray)(mv:Mv)(w:World)(n:Nat)(wx:World)(rs:List Rl)(A6:St)(vE:Mv)(P:List Nat)(ms:List Mn)(rv:Value):Prop where
 num:n+rs.length=9
 le:rs.length<=8
 ok:Ok s A6
 op:A6.sc.op=0
 bad:A6.sc.bad<0
 more:A6.sc.at_<s.size\/rs.length=0
 gram:wx.heap[w.heap.size]?=some (.cells #[rv,.int .i64 0] 150)
 own:wx.ownsRow base 189 3 rv rs.length (rs.flatMap (uW P))
 cr:CR wx base b s vE (Tg w.heap.size rv) P ms A6
 is:∀r∈rs,r.is<P.length
 ms:ow ms rs A6.ns A6.sc.at_
 cs:Cs b mv vE w wx
 new:∀j,rv.ownBlock=some j->w.heap.size<j
theorem Pj {P l:List Nat}{rs:List Rl}(h:∀r∈rs,r.is<P.length):rs.flatMap (uW (P++l))=rs.flatMap (uW P):=by
 have:∀r∈rs,uW (P++l) r=uW P r:=by
  intro r hr
  unfold uW aO
  rw[bo (h r hr)]
 simp only[List.flatMap_def]
 rw[List.map_congr_left this]
theorem CR.turn {S T':Nat->Prop}{w w':World}{base b:Nat}{s:ByteArray}{mv:Mv}{T:Nat->Prop}{P:List Nat}{ms:List Mn}{A:St}(h:CR w base b s mv T P ms A)(hk:aa S w w')(h1:¬S b)(h2:∀j,mv.v.ownBlock=some j->¬S j)(h3:∀j,S j->T j)(h4:∀j,T' j->T j\/w.heap.size<=j)(h5:∀j,T' j->j<w'.heap.size):CR w' base b s mv T' P ms A:=
 ⟨h.ris.kept hk h1,aC h.own hk (fun i hi e=>h2 i hi e),h.nb,h.ar.kept hk (fun j _ x y=>x.2.2 (h3 j y)) (fun j hj x=>⟨x.1,x.2.1,fun y=>(h4 j y).elim x.2.2 (fun z=>by omega)⟩),h5,h.mlt,h.bb,h.t40,h.mlen,h.bk.kept h.ar hk (fun j _ x y=>x.2.2 (h3 j y))⟩
theorem Cs.newS {S:Nat->Prop}{b:Nat}{mv mv':Mv}{w w1 w2:World}(h:Cs b mv mv' w w1)(hk:aa S w1 w2)(hn:∀j,S j->w.heap.size<=j):Cs b mv mv' w w2:=
 ⟨⟨hk.os.trans h.kept.os,hk.tape.trans h.kept.tape,hk.output.trans h.kept.output,Nat.le_trans h.kept.size hk.size,fun i hi hs=>by
  rw[hk.block i (Nat.lt_of_lt_of_le hi h.kept.size) (fun x=>by have:=hn i x;omega)];exact h.kept.block i hi hs⟩,h.own,h.pre⟩
theorem uT {s:ByteArray}{B:St}{rs:List Rl}(h:¬(B.sc.bad<0/\(B.sc.at_<s.size\/rs.length=0))):∀f,cX s f B rs=(B,rs)
 | 0=>rfl
 | f+1=>by rw[cX,if_neg h]
theorem yt (s:ByteArray)(base b:Nat)(mv:Mv)(w:World)(hs:s.size<=400)(hC:CR w base b s mv (fun _=>False) [] [] ⟨⟨0,-1,0,0⟩,[]⟩):
  Calls Tryz.prog 67 #[.pointer (some ⟨b,0,none⟩)] w fun e w'=>Vs base b s mv w (aq s) e w':=by
 obtain⟨i0,iC,gH,iD,iz⟩:=info_parts Tu
 obtain⟨L,hL⟩:∃L,aq s=L:=⟨_,rfl⟩
 have HL:Hid (cX s (9+1) ⟨⟨0,-1,0,0⟩,[]⟩ []=L):=hL
 rw[hL]
 clear hL
 have M7:=hC.lt
 have gV:=hC.bb
 go_enter Tryz.func67,Tryz.ntmps67
 go_wp2
 go_loopg [] 9 (fun n wx=>∃rs A6 vE P ms rv,GrI base b s mv w n wx rs A6 vE P ms rv/\Hid (cX s (n+1) A6 rs=L))
 case atStart=>
  refine⟨[],⟨⟨0,-1,0,0⟩,[]⟩,mv,[],[],.slice none 0 0,⟨rfl,by simp,⟨⟨fun _=>Nat.zero_le _,Nat.zero_le _⟩,by simp,by simp[Pt,rest];omega,by simp,hs⟩,rfl,by decide,.inr rfl,heap_alloc_new _ _,World.ownsRow_nil _ _ _ _,?_,by simp,ow.nil,Cs.only ((aa.refl (·=b) w).alloc _),by simp[Value.ownBlock]⟩,HL.out⟩
  exact(hC.room _).apart (fun k hk=>by
   rcases hk with h | h
   ·exact .inr h
   ·exact absurd h (by simp[Value.ownBlock]))
 case round=>
  obtain⟨rs,A6,vE,P,ms,rv,hI,HR⟩:=hrel
  obtain⟨m,hm⟩:∃m,m=gk:=⟨gk,rfl⟩
  subst hm
  have hg:=hI.gram
  obtain⟨g0,g1,P6,P8⟩:=g7 hg
  obtain⟨rp,rc,dU⟩:=an hI.own
  have h1:=HR.out
  rw[cX,if_pos ⟨hI.bad,hI.more⟩]at h1
  have hl9:=hI.le
  by_cases h8:rs.length=8
  ·rw[if_pos h8]at h1
   subst dU
   have q8:((rs.length:Int) == 8)=true:=by simp[h8]
   have HB:Hid (L.1.sc.bad=A6.sc.at_):=by
    unfold Hid;rw[<-h1];show (Go.Proofs.YtagklnaaoclmhaaGreatDoor.wr A6.sc).bad=_;rw[gO hI.bad]
   clear h1 HR HL
   go_wp2
   go_ret2
   exact⟨fun h=>absurd h (by rw[HB.out];omega),fun _=>⟨rfl,vE,A6.sc,hI.cr.ris,by rw[HB.out],hI.cs⟩⟩
  ·rw[if_neg h8]at h1
   have q8:((rs.length:Int) == 8)=false:=by simp;omega
   have xt:=Hp s base b vE (Tg w.heap.size rv) P ms A6 wr hI.cr hI.ok hI.op hI.bad (by have:=hI.ms.len;omega)
   have S6:=jQ hI.ok hI.op hI.bad
   have KT:=LQ hI.ok hI.op hI.bad
   have H1:=ae h1
   clear h1 HR HL
   generalize de s A6=X at *
   obtain⟨B,r⟩:=X
   dsimp only at *
   subst dU
   go_wp2_with fail
   refine xt.mono ?_
   intro e w7 ci
   by_cases hbB:B.sc.bad<0
   ·obtain⟨jP,P2,l,rfl,pH,vz,jN,hx⟩:=ci.ok hbB
    dsimp only[uW]at *
    obtain⟨cb,sQ⟩:∃c,ai wr b=some (.cells c 138 (0,0)):=by
     obtain⟨z,_,hz⟩:=hI.cr.ris
     exact⟨_,hz⟩
    have hmg:vE.v.ownBlock≠some w.heap.size:=fun h=>by
     obtain⟨c,hc⟩:=ak hI.cr.own h
     rw[show ai wr w.heap.size=_ from hg]at hc
     simp at hc
    have wn:∀j,(Value.slice rp rs.length rc).ownBlock=some j->j≠b/\vE.v.ownBlock≠some j:=fun j hj=>by
     obtain⟨c,hc⟩:=ak hI.own hj
     refine⟨fun e=>?_,fun h=>?_⟩
     ·subst e;rw[sQ]at hc;simp at hc
     ·obtain⟨c2,gB⟩:=ak hI.cr.own h
      rw[hc]at gB
      simp at gB
    have Xn:w7.heap[w.heap.size]?=some (.cells #[.slice rp rs.length rc,.int .i64 0] 150):=by
     rw[jN.kept.block _ (ag (show ai wr _=_ from hg)) (fun h=>by
      rcases h with h | h
      ·omega
      ·exact hmg h)]
     exact hg
    have KJ:w7.ownsRow base 189 3 (.slice rp rs.length rc) rs.length (rs.flatMap (uW P)):=aC hI.own jN.kept (fun i hi h=>by
     rcases h with h | h
     ·exact(wn i hi).1 h
     ·exact(wn i hi).2 h)
    obtain⟨m0,m1,mf0,mf1⟩:=g7 Xn
    have qaR:=ag (show ai w7 _=_ from Xn)
    obtain⟨pq,lX⟩:∃pq,pq=(P++P2).getD r.is 0:=⟨_,rfl⟩
    unfold aO
    rw[<-lX]
    have HQ:=ae lX
    clear lX ci xt hg g0 g1 P6 P8
    obtain⟨qbB,l',qbC,qbD,qbE,qbF⟩:=KT hbB
    have AL:l=l':=List.append_cancel_left (pH.symm.trans qbC)
    subst AL
    have SM:=hI.ms.rule qbB qbD qbE qbF
    rw[<-pH]at SM
    have kw:((w7.alloc (.cells #[.string (ba r.name),.int .i64 (r.at_:Int),.pointer (some ⟨pq,0,none⟩)] 189)).drew.alloc (.cells #[.string (ba r.name),.int .i64 (r.at_:Int),.pointer (some ⟨pq,0,none⟩)] 189)).heap[w7.heap.size+1]?=some (.cells #[.string (ba r.name),.int .i64 (r.at_:Int),.pointer (some ⟨pq,0,none⟩)] 189 (0,0)):=by
     have:=heap_alloc_new (w7.alloc (.cells #[.string (ba r.name),.int .i64 (r.at_:Int),.pointer (some ⟨pq,0,none⟩)] 189)).drew (.cells #[.string (ba r.name),.int .i64 (r.at_:Int),.pointer (some ⟨pq,0,none⟩)] 189)
     simpa using this
    have Ch:w.heap.size≠w7.heap.size:=by omega
    have N9:=vz.lt
    have EU:=hI.new
    have qaC:base<=w7.heap.size:=by have:=vz.bb;omega
    go_wp2
    go_region_law
     ((
      refine step_append_lies _ (by rfl) _ _ _ (by rfl) base 189 i0 _ 3 32 Tryz.underlying148 iC gH iD iz (by rfl) (by omega) (.slice rp rs.length rc) rs.length (rs.flatMap (uW P)) (by rfl) (((KJ.alloc _).alloc _).drew)
       ⟨w7.heap.size+1,0,none⟩ 1 1 [.string (ba r.name),.int .i64 (r.at_:Int),.pointer (some ⟨pq,0,none⟩)] (by rfl) (by simp) (World.news_of_block (t:=189) (fr:=(0,0)) kw) (by simp[Value.oneCell'])
       (by omega) (by simp[maxLen];omega) (by omega) (by simp;omega) (w7.heap.size+2) (by simp) ?_;intro gg cap w9 hown9 hgrow dA bj
      have sf:aa (fun k=>(Value.slice rp rs.length rc).ownBlock=some k) w7 w9:=((((aa.refl _ w7).alloc _).drew).alloc _).grown hgrow (fun k h _=>h)
      have hg9:w9.heap[w.heap.size]?=some (.cells #[.slice rp rs.length rc,.int .i64 0] 150):=by rw[sf.block _ qaR (fun h=>by have:=EU _ h;omega)];exact Xn
      obtain⟨n0,n1,nf0,nf1⟩:=g7 hg9))
    all_goals
     obtain⟨vl,yQ⟩:∃vl,vl=w9.setCell ⟨w.heap.size,0,none⟩ (Value.slice (some ⟨gg,0,none⟩) (rs.length+1) cap):=⟨_,rfl⟩
     have Ko:gg≠w.heap.size:=by
      rcases dA with h | h
      ·have:=EU _ h;omega
      ·omega
     have qaP:w.heap.size<gg:=by
      rcases dA with h | h
      ·exact EU _ h
      ·omega
     have lV:gg<w9.heap.size:=(hown9.lt gg rfl).2
     have hz9:=sf.size
     have Zs:aa (·=w.heap.size) w9 vl:=by rw[yQ];exact(aa.refl (·=w.heap.size) w9).setCell (fun _=>rfl) _
     have qdk:=Zs.size
     have OA:∀j,jP.v.ownBlock=some j->j≠w.heap.size/\(Value.slice rp rs.length rc).ownBlock≠some j:=fun j hj=>by
      obtain⟨c,hc⟩:=ak vz.own hj
      refine⟨fun e=>?_,fun h=>?_⟩
      ·subst e;rw[show ai w7 _=_ from Xn]at hc;simp at hc
      ·obtain⟨c2,gB⟩:=ak KJ h
       rw[hc]at gB;simp at gB
     have CY:CR w9 base b s jP (Tg w.heap.size (.slice (some ⟨gg,0,none⟩) (rs.length+1) cap)) (P++P2) _ B:=vz.turn sf (fun h=>(wn b h).1 rfl) (fun j hj h=>(OA j hj).2 h) (fun j h=>.inr h) (fun j h=>by
      rcases h with h | h
      ·exact .inl (.inl h)
      ·have:gg=j:=Option.some.inj h
       subst this
       rcases dA with h | h
       ·exact .inl (.inr h)
       ·exact .inr (by omega)) (fun j h=>by
      rcases h with h | h
      ·omega
      ·have:gg=j:=Option.some.inj h
       omega)
     have JP:=CY.off Zs (by omega) (fun j hj h=>(OA j hj).1 h) (fun j h=>.inl h)
     have Xl:vl.heap[w.heap.size]?=some (.cells #[.slice (some ⟨gg,0,none⟩) (rs.length+1) cap,.int .i64 0] 150):=by
      rw[yQ,aj hg9];rfl
     have hPl:(P++P2).length=B.ns.length:=vz.ar.len
     have hPA:P.length=A6.ns.length:=hI.cr.ar.len
     have KH:vl.ownsRow base 189 3 (.slice (some ⟨gg,0,none⟩) (rs.length+1) cap) (rs++[r]).length ((rs++[r]).flatMap (uW (P++P2))):=by
      rw[List.flatMap_append,Pj hI.is,List.length_append]
      have hx1:[r].flatMap (uW (P++P2))=[.string (ba r.name),.int .i64 (r.at_:Int),.pointer (some ⟨pq,0,none⟩)]:=by
       rw[HQ.out];simp[uW,aO]
      rw[hx1,yQ]
      exact dq hown9 (a:=⟨w.heap.size,0,none⟩) (fun h=>Ko (Option.some.inj h)) _
     have Ax:Cs b mv jP w vl:=((hI.cs.trans jN).newS sf (fun j h=>by have:=EU j h;omega)).newS Zs (fun j h=>by omega)
     have KC:∀j,(Value.slice (some ⟨gg,0,none⟩) (rs.length+1) cap).ownBlock=some j->w.heap.size<j:=fun j h=>by
      have:gg=j:=Option.some.inj h
      omega
     have Xv:∀x∈rs++[r],x.is<(P++P2).length:=fun x E3=>by
      rcases List.mem_append.1 E3 with h | h
      ·have:=hI.is x h;simp;omega
      ·rw[List.mem_singleton.1 h,hPl];exact hx
     have JV:=S6.2.2.1
     have X0:=S6.2.1
     have wm:=hI.num
     rw[<-yQ]
     clear hown9 hgrow sf hg9 n0 n1 nf0 nf1 CY Zs yQ vz KJ Xn m0 m1 mf0 mf1 jN hI kw HQ
     generalize hrv10:Value.slice (some ⟨gg,0,none⟩) (rs.length+1) cap=rv10 at *
     clear hrv10
     have Is:B.sc.at_<=s.size:=JV.iv.1 hbB
     go_wp2_with fail
     refine(gI b s jP B.sc _ JP.ris hs Is).mono ?_
     rintro e w11 ⟨rfl,No,rfl⟩
     have hKd:aa (fun _=>False) vl (vl.drewN No):=(aa.refl _ _).drewN _
     have nN:=JP.off hKd (fun h=>h) (fun _ _ h=>h) (fun _ h=>h.elim)
     have rf:Cs b mv jP w (vl.drewN No):=Ax.newS hKd (fun _ h=>h.elim)
     have Su:(vl.drewN No).heap[w.heap.size]?=some (.cells #[rv10,.int .i64 0] 150):=Xl
     have KI:(vl.drewN No).ownsRow base 189 3 rv10 (rs++[r]).length ((rs++[r]).flatMap (uW (P++P2))):=KH
     have To:=nN.ris.brk
     obtain⟨zz,U3⟩:∃zz:Int,zz=(jP.L.length:Int):=⟨_,rfl⟩
     rw[<-U3]at To
     have HZ:=ae U3
     clear U3
     obtain⟨k0,k1,kf0,kf1⟩:=g7 Su
     have qc1:w.heap.size≠b:=by omega
     have XR:b≠w.heap.size:=by omega
     have X9:rv10.ownBlock≠some w.heap.size:=fun h=>by have:=KC _ h;omega
     have XO:∀j,jP.v.ownBlock=some j->j≠w.heap.size:=fun j hj=>(OA j hj).1
     clear JP Ax Xl KH hKd OA
     generalize hw11:vl.drewN No=w11 at *
     clear hw11
     by_cases lN:B.sc.at_=s.size
     ·have Nh:nx s B.sc.at_=-1:=by unfold nx;rw[if_pos lN]
      rw[Nh]
      have HE:Hid (L=(B,rs++[r])):=by
       unfold Hid;rw[<-H1.out]
       exact uT (fun h=>by
        rcases h.2 with h | h
        ·omega
        ·simp at h) _
      clear H1 Nh
      have WJ:aa (·=w.heap.size) w11 (w11.setCell ⟨w.heap.size,1,none⟩ (.int .i64 zz)):=(aa.refl (·=w.heap.size) w11).setCell (p:=⟨w.heap.size,1,none⟩) (fun _=>rfl) _
      go_wp2
      go_ret2
      rw[HE.out]
      refine⟨fun _=>⟨jP,P++P2,_,w.heap.size,rv10,zz,HZ.out,rfl,by rw[aj Su];rfl,dq KI X9 _,nN.off WJ (by omega) (fun j hj h=>XO j hj h) (fun j h=>.inl h),SM,rf.newS WJ (fun j h=>by omega)⟩,fun h=>absurd (show 0<=B.sc.bad from h) (by omega)⟩
     ·have XH:B.sc.at_<s.size:=by omega
      have q1:(nx s B.sc.at_ == (-1:Int))=false:=by
       unfold nx;rw[if_neg lN];exact beq_eq_false_iff_ne.2 (by omega)
      have H2:Hid (cX s (m-1+1) B (rs++[r])=L):=by
       unfold Hid;rw[show m-1+1=m by omega];exact H1.out
      have HM:Hid (m+rs.length=9):=wm
      clear H1 wm
      generalize nx s B.sc.at_=xx at *
      go_wp2
      go_roundg (m-1)
      case measure=>have:=HM.out;omega
      case rel=>
       have:=HM.out
       exact⟨rs++[r],B,jP,P++P2,_,rv10,⟨by simp;omega,by simp;omega,JV,X0,hbB,.inl XH,Su,KI,nN,Xv,SM,rf,KC⟩,H2.out⟩
   ·obtain⟨c0,c1,c2,rfl,mv',g',pz,dA,jN⟩:=ci.no (show 0<=B.sc.bad by omega)
    have HE:Hid (L=(B,rs++[r])):=by
     unfold Hid;rw[<-H1.out]
     exact uT (fun h=>hbB h.1) _
    have sL:=hI.cs.trans jN
    have N8:(g'.at_:Int)=B.sc.bad:=dA
    clear H1 ci xt KT S6 dA
    go_wp2
    go_ret2
    rw[HE.out]
    exact⟨fun h=>absurd (show B.sc.bad<0 from h) (by omega),fun _=>⟨rfl,mv',g',pz.alloc _,N8,sL.trans (Cs.only ((aa.refl (·=b) w7).alloc _))⟩⟩
theorem jL {w:World}{a:Addr}{v:Value}(h:w.cell? a=some v):a.block<w.heap.size:=by
 rcases Nat.lt_or_ge a.block w.heap.size with h1 | h1
 ·exact h1
 ·unfold World.cell? at h
  rw[Array.getElem?_eq_none h1]at h
  cases h
theorem kD {w:World}{base:Nat}{rv:Value}{P:List Nat}{rs:List Rl}(h:w.ownsRow base 189 3 rv rs.length (rs.flatMap (uW P))){k:Nat}(hk:k<rs.length):
  ∃g cap,rv=.slice (some ⟨g,0,none⟩) rs.length cap/\w.cell? ⟨g,k*3,none⟩=some (.string (ba rs[k].name))/\w.cell? ⟨g,k*3+1,none⟩=some (.int .i64 (rs[k].at_:Int))/\w.cell? ⟨g,k*3+2,none⟩=some (aO P rs[k].is):=by
 obtain⟨g,cap,hv,_,_⟩:=h.form (by omega)
 subst hv
 have hf:∀a:Rl,(uW P a).length=3:=fun _=>rfl
 refine⟨g,cap,rfl,?_,?_,?_⟩
 ·rw[h.cellAt (k*3) (by omega)]
  have:=ep (uW P) 3 hf rs k 0 (by omega) hk
  rw[Nat.add_zero]at this
  rw[this];rfl
 ·rw[h.cellAt (k*3+1) (by omega),ep (uW P) 3 hf rs k 1 (by omega) hk];rfl
 ·rw[h.cellAt (k*3+2) (by omega),ep (uW P) 3 hf rs k 2 (by omega) hk];rfl
theorem Gi (c0 nm:List UInt8)(c1:Int)(c2:Option Addr)(kb:Nat)(w:World)(hk:w.cell? ⟨kb,0,none⟩=some (.string (ba nm))):
  Calls Tryz.prog 144 #[.agg #[.string (ba c0),.int .i64 c1,.pointer c2],.pointer (some ⟨kb,0,none⟩)] w fun e w'=>e=.returned (.bool (decide (c0=nm)))/\aa (fun _=>False) w w':=by
 have bj:=jL hk
 have eW:kb≠w.heap.size:=fun e=>by subst e;exact Nat.lt_irrefl _ bj
 have co:=hk
 have q:((ba c0).toList == (ba nm).toList)=decide (c0=nm):=by
  rw[dS,dS]
  by_cases h:c0=nm <;> simp[h]
 go_enter Tryz.func144,Tryz.ntmps144
 go_wp2
 go_ret
 exact⟨rfl,(aa.refl _ _).alloc _⟩
theorem wD (base:Nat)(rv:Value)(P:List Nat)(rs:List Rl)(nm:List UInt8)(kb:Nat)(w:World)(hk:w.cell? ⟨kb,0,none⟩=some (.string (ba nm)))(hO:w.ownsRow base 189 3 rv rs.length (rs.flatMap (uW P)))(hl:rs.length<=8):
  Calls Tryz.prog 143 #[rv,.func (.func 144) #[] #[.pointer (some ⟨kb,0,none⟩)]] w fun e w'=>e=.returned (.int .i64 (j9 rs nm))/\aa (fun _=>False) w w':=by
 obtain⟨p,cap,dU⟩:=an hO
 subst dU
 have uz:=jL hk
 go_enter Tryz.func143,Tryz.ntmps143
 go_wp2
 go_loopg [8] rs.length (fun n i wx=>∃k:Nat,Hid (k+n=rs.length)/\i=.int .i64 k/\Hid (∀j (h:j<rs.length),j<k->rs[j].name≠nm)/\aa (fun _=>False) w wx)
 case atStart=>exact⟨0,Nat.zero_add _,rfl,fun j _ h=>absurd h (by omega),aa.refl _ _⟩
 case round=>
  obtain⟨k,eh,rfl,HA,hK⟩:=hrel
  obtain⟨m,hm⟩:∃m,m=gk:=⟨gk,rfl⟩
  subst hm
  have kK:=aC hO hK (fun _ _ h=>h)
  have ti:wr.cell? ⟨kb,0,none⟩=some (.string (ba nm)):=by rw[hK.cell (p:=⟨kb,0,none⟩) uz (fun h=>h)];exact hk
  by_cases bj:k<rs.length
  ·obtain⟨gb,kT,dU,r0,r1,r2⟩:=kD kK bj
   simp only[Value.slice.injEq]at dU
   obtain⟨hp,_,fO⟩:=dU
   subst hp fO
   unfold aO at r2
   have hf:=Gi rs[k].name nm (rs[k].at_:Int) (some ⟨P.getD rs[k].is 0,0,none⟩) kb wr ti
   go_wp2_with fail
   refine hf.mono ?_
   rintro e w7 ⟨rfl,eE⟩
   have lM:=hK.trans eE
   by_cases sl:rs[k].name=nm
   ·have q:decide (rs[k].name=nm)=true:=by simpa using sl
    have HF:Hid (j9 rs nm=(k:Int)):=by unfold Hid j9;rw[xd bj sl HA.out]
    rw[q]
    clear sl HA q
    go_wp2
    go_ret
    exact⟨by rw[HF.out];rfl,lM⟩
   ·have q:decide (rs[k].name=nm)=false:=by simpa using sl
    have HF:Hid (∀j (h:j<rs.length),j<k+1->rs[j].name≠nm):=fun j h hj=>by
     rcases Nat.lt_or_eq_of_le (Nat.lt_succ_iff.1 hj) with h1 | h1
     ·exact HA.out j h h1
     ·subst h1;exact sl
    rw[q]
    clear sl HA q
    go_wp2
    go_roundg (m-1)
    case measure=>have:=eh.out;omega
    case rel=>exact⟨k+1,by have:=eh.out;unfold Hid;omega,by go_num,HF,lM⟩
  ·have HF:Hid (j9 rs nm=-1):=by unfold Hid j9;rw[xc (fun j h=>HA.out j h (by omega))]
   clear HA
   go_wp2
   go_ret
   exact⟨by rw[HF.out];rfl,hK⟩
theorem wZ (base gb:Nat)(rv:Value)(z:Int)(P:List Nat)(rs:List Rl)(nm:List UInt8)(w:World)(hg:w.heap[gb]?=some (.cells #[rv,.int .i64 z] 150))(hO:w.ownsRow base 189 3 rv rs.length (rs.flatMap (uW P)))(hl:rs.length<=8):
  Calls Tryz.prog 97 #[.pointer (some ⟨gb,0,none⟩),.string (ba nm)] w fun e w'=>e=.returned (.int .i64 (j9 rs nm))/\aa (fun _=>False) w w':=by
 have hmf:∀(fn:Fn) (first cap:Array Value) (w:World),(Instr.makeFunc fn first cap).run Tryz.prog w=.ok (.func fn first cap) w:=fun _ _ _ _=>rfl
 obtain⟨p,cap,dU⟩:=an hO
 obtain⟨g0,g1,P6,P8⟩:=g7 hg
 have lV:=jL g0
 have eW:gb≠w.heap.size:=fun e=>by subst e;exact Nat.lt_irrefl _ lV
 have Kp:=wD base rv P rs nm w.heap.size (w.alloc (.cells #[.string (ba nm)] 9)) (by unfold World.cell?;rw[heap_alloc_new];rfl) (hO.alloc _) hl
 subst dU
 go_enter Tryz.func97,Tryz.ntmps97
 go_wp2_with fail
 refine Kp.mono ?_
 rintro e w1 ⟨rfl,hK⟩
 go_wp2
 go_ret
 exact⟨rfl,((aa.refl _ w).alloc _).trans hK⟩
end Go.Proofs.YtagklnaaoclmhaaGreatDoor
