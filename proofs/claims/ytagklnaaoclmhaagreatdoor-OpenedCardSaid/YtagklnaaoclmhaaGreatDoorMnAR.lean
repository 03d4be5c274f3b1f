import Derived.Test.YtagklnaaoclmhaaGreatDoorMnAQ
import Derived.Shelf.Spec.TrailingZeros
set_option linter.unusedSimpArgs false
set_option linter.unusedVariables false
set_option maxRecDepth 100000
set_option maxHeartbeats 16000000
namespace Go.Proofs.YtagklnaaoclmhaaGreatDoor
open Go.RowKit
structure Ix (I:Wi):Prop where
 tx:∀i,i<I.K.ns.length->(ap I.K.ns i).text.length<=1000
 rl:∀i,i<I.K.ns.length->(ap I.K.ns i).rng.length<=5000
theorem cQ.sub4 {I:Wi}(hI:Ic I){mv:Value}{s:Wt}{w:World}(h:cQ I mv s w){i:Nat}(hi:i<I.K.ns.length):∀j∈(ap I.K.ns i).subs,zQ I j:=by
 intro j hj
 have ew:=(be hI.wf.wf hi).low j hj
 refine⟨by omega,fun h4=>?_⟩
 have:=h.brk.2.sub i hi j (by rw[bA hi]at hj;exact hj)
 exact this h4
theorem Lh {I:Wi}(hI:Ic I)(hX:Ix I){f:Nat}(hS:lA I f):PT I f:=by
 intro i a s t s' mv w hi ha h hm hk
 have iJ:=be hI.wf.wf hi.1
 have dL:=h.sub4 hI hi.1
 have hp:=h.part hi.1
 have rz:=hI.ru i hi.1
 have Da:=hI.l60
 have eI:=hI.len
 have Dp:=hX.tx i hi.1
 have Cn:=hX.rl i hi.1
 have kP:=ys h.gm i hi.1
 obtain⟨z,vR,vP,hb,_,_,_,ke,_⟩:=hp
 have sn:=ag (show ai w (I.P.getD i 0)=_ from hb)
 have cK:w.cell? ⟨I.P.getD i 0,0,none⟩=some (.int .i64 (cu (ap I.K.ns i).kind)):=by simp only[World.cell?,hb];rfl
 have cR:w.cell? ⟨I.P.getD i 0,1,none⟩=some (.int .i64 (I.ρ i)):=by simp only[World.cell?,hb];rfl
 have cP:w.cell? ⟨I.P.getD i 0,6,none⟩=some vP:=by simp only[World.cell?,hb];rfl
 unfold Cu at hk
 have fN:(ap I.K.ns i).kind<=2\/(ap I.K.ns i).kind=3\/(ap I.K.ns i).kind=4\/(ap I.K.ns i).kind=5\/(ap I.K.ns i).kind=6\/(ap I.K.ns i).kind=7\/(ap I.K.ns i).kind=8\/(ap I.K.ns i).kind=9\/(ap I.K.ns i).kind=10:=by have:=iJ.kind;omega
 have ZC:=fun n=>h.drewN hI n
 have hFd:∀n,Fr I.b0 mv.ownBlock mv.ownBlock w (w.drewN n):=fun n=>Fr.new ((aa.refl _ w).drewN n)
 have WN:∀n,(w.drewN n).ownsRow I.bg 187 1 vP (ap I.K.ns i).subs.length ((ap I.K.ns i).subs.map (aO I.P)):=fun n=>zh (hFd n) ke
 rcases fN with k | k | k | k | k | k | k | k | k
 ·rw[if_pos k]at hk
  simp only[Option.some.injEq]at hk
  have hT:=Hz hI i a s mv w ha hi.1 k Dp Cn h
  rw[hk]at hT
  have gC:cu (ap I.K.ns i).kind=((ap I.K.ns i).kind:Int)+1:=by unfold cu;rw[if_neg (by omega),if_pos k]
  rw[gC]at cK
  have ff:(ap I.K.ns i).kind=0\/(ap I.K.ns i).kind=1\/(ap I.K.ns i).kind=2:=by omega
  unfold aw aO at *
  generalize I.P.getD i 0=pq at *
  rcases ff with k0 | k0 | k0 <;> rw[k0]at cK <;> clear hk
  all_goals
   go_enter Tryz.func179,Tryz.ntmps179
   go_wp2_with fail
   refine hT.mono ?_
   rintro e w1 ⟨rfl,Fk,h1,vQ⟩
   go_wp2
   go_ret
   exact⟨rfl,_,h1,vQ⟩
 ·rw[if_neg (by omega),if_pos k]at hk
  obtain⟨r1,r2⟩:=rz k
  have hT:=BA hI hS _ a t s s' mv w ha r2 h hm hk
  rw[k,show cu 3=0 from rfl]at cK
  rw[r1]at cR
  unfold aw aO at *
  generalize I.P.getD i 0=pq at *
  clear hk
  all_goals
   go_enter Tryz.func179,Tryz.ntmps179
   go_wp2_with fail
   refine hT.mono ?_
   rintro e w1 ⟨rfl,Fk,h1,vQ⟩
   go_wp2
   go_ret
   exact⟨rfl,_,h1,vQ⟩
 ·rw[if_neg (by omega),if_neg (by omega),if_pos k]at hk
  have hT:=NT hI hS i a t s s' mv w ha hi k h hk
  rw[k,show cu 4=4 from rfl]at cK
  unfold aw aO at *
  generalize I.P.getD i 0=pq at *
  clear hk
  all_goals
   go_enter Tryz.func179,Tryz.ntmps179
   go_wp2_with fail
   refine hT.mono ?_
   rintro e w1 ⟨rfl,Fk,h1,vQ⟩
   go_wp2
   go_ret
   exact⟨rfl,_,h1,vQ⟩
 ·rw[if_neg (by omega),if_neg (by omega),if_neg (by omega),if_pos k]at hk
  have hT:=LW hI hS I.bg a vP (ap I.K.ns i).subs t s s' mv w ha ke dL kP h hk
  rw[k,show cu 5=5 from rfl]at cK
  unfold aw aO at *
  generalize I.P.getD i 0=pq at *
  clear hk
  all_goals
   go_enter Tryz.func179,Tryz.ntmps179
   go_wp2_with fail
   refine hT.mono ?_
   rintro e w1 ⟨rfl,Fk,h1,vQ⟩
   go_wp2
   go_ret
   exact⟨rfl,_,h1,vQ⟩
 ·obtain⟨x,hx⟩:=iJ.one (by omega)
  have jY:(ap I.K.ns i).subs.getD 0 0=x:=by rw[hx];rfl
  rw[if_neg (by omega),if_neg (by omega),if_neg (by omega),if_neg (by omega),if_pos k,jY]at hk
  have wv:zQ I x:=dL x (by rw[hx];simp)
  rw[hx]at ke
  obtain⟨gg,cap,xw,sj⟩:=lq ke (k:=0) (by simp)
  have Of:w.cell? ⟨gg,0,none⟩=some (aO I.P x):=sj
  have pI:vP=.slice (some ⟨gg,0,none⟩) 1 cap:=xw
  rw[pI]at cP
  rw[k,show cu 6=6 from rfl]at cK
  have hT:=Ly hI hS x a t s s' mv w ha wv h hk
  clear ke WN sj xw pI
  unfold aw aO at *
  generalize I.P.getD i 0=pq at *
  clear hk
  all_goals
   go_enter Tryz.func179,Tryz.ntmps179
   go_wp2_with fail
   refine hT.mono ?_
   rintro e w1 ⟨rfl,Fk,h1,vQ⟩
   go_wp2
   go_ret
   exact⟨rfl,_,h1,vQ⟩
 ·obtain⟨x,hx⟩:=iJ.one (by omega)
  have jY:(ap I.K.ns i).subs.getD 0 0=x:=by rw[hx];rfl
  rw[if_neg (by omega),if_neg (by omega),if_neg (by omega),if_neg (by omega),if_neg (by omega),if_pos k,jY]at hk
  have wv:zQ I x:=dL x (by rw[hx];simp)
  rw[hx]at ke
  obtain⟨gg,cap,xw,sj⟩:=lq ke (k:=0) (by simp)
  have Of:w.cell? ⟨gg,0,none⟩=some (aO I.P x):=sj
  have pI:vP=.slice (some ⟨gg,0,none⟩) 1 cap:=xw
  rw[pI]at cP
  rw[k,show cu 7=7 from rfl]at cK
  have hT:=xR hI hS x a f t s s' mv w ha wv h hk
  clear ke WN sj xw pI
  unfold aw aO at *
  generalize I.P.getD i 0=pq at *
  clear hk
  all_goals
   go_enter Tryz.func179,Tryz.ntmps179
   go_wp2_with fail
   refine hT.mono ?_
   rintro e w1 ⟨rfl,Fk,h1,vQ⟩
   go_wp2
   go_ret
   exact⟨rfl,_,h1,vQ⟩
 ·obtain⟨x,hx⟩:=iJ.one (by omega)
  have jY:(ap I.K.ns i).subs.getD 0 0=x:=by rw[hx];rfl
  rw[if_neg (by omega),if_neg (by omega),if_neg (by omega),if_neg (by omega),if_neg (by omega),if_neg (by omega),if_pos k,jY]at hk
  have wv:zQ I x:=dL x (by rw[hx];simp)
  rw[hx]at ke
  obtain⟨gg,cap,xw,sj⟩:=lq ke (k:=0) (by simp)
  have Of:w.cell? ⟨gg,0,none⟩=some (aO I.P x):=sj
  have pI:vP=.slice (some ⟨gg,0,none⟩) 1 cap:=xw
  rw[pI]at cP
  rw[k,show cu 8=8 from rfl]at cK
  have hT:=Hi hI hS x a f t s s' mv w ha wv h hk
  clear ke WN sj xw pI
  unfold aw aO at *
  generalize I.P.getD i 0=pq at *
  clear hk
  all_goals
   go_enter Tryz.func179,Tryz.ntmps179
   go_wp2_with fail
   refine hT.mono ?_
   rintro e w1 ⟨rfl,Fk,h1,vQ⟩
   go_wp2
   go_ret
   exact⟨rfl,_,h1,vQ⟩
 ·obtain⟨x,hx⟩:=iJ.one (by omega)
  have jY:(ap I.K.ns i).subs.getD 0 0=x:=by rw[hx];rfl
  rw[if_neg (by omega),if_neg (by omega),if_neg (by omega),if_neg (by omega),if_neg (by omega),if_neg (by omega),if_neg (by omega),jY]at hk
  have wv:zQ I x:=dL x (by rw[hx];simp)
  rw[hx]at ke
  obtain⟨gg,cap,xw,sj⟩:=lq ke (k:=0) (by simp)
  have Of:w.cell? ⟨gg,0,none⟩=some (aO I.P x):=sj
  have pI:vP=.slice (some ⟨gg,0,none⟩) 1 cap:=xw
  rw[pI]at cP
  rw[k,show cu 9=9 from rfl]at cK
  rw[decide_eq_true k]at hk
  have hT:=xA hI hS x a true t s s' mv (w.drewN 1) ha wv (ZC 1) hk
  clear ke WN sj xw pI
  unfold aw aO at *
  generalize I.P.getD i 0=pq at *
  generalize I.P.getD x 0=px at *
  clear hk
  all_goals
   go_enter Tryz.func179,Tryz.ntmps179
   go_wp2_with fail
   go_region_with (go_at_call 196;refine hT.mono ?_;rintro e w1 ⟨rfl,Fk,h1,vQ⟩)
   all_goals
    go_wp2
    go_ret
    exact⟨rfl,_,h1,(hFd 1).trans vQ⟩
 ·obtain⟨x,hx⟩:=iJ.one (by omega)
  have jY:(ap I.K.ns i).subs.getD 0 0=x:=by rw[hx];rfl
  rw[if_neg (by omega),if_neg (by omega),if_neg (by omega),if_neg (by omega),if_neg (by omega),if_neg (by omega),if_neg (by omega),jY]at hk
  have wv:zQ I x:=dL x (by rw[hx];simp)
  rw[hx]at ke
  obtain⟨gg,cap,xw,sj⟩:=lq ke (k:=0) (by simp)
  have Of:w.cell? ⟨gg,0,none⟩=some (aO I.P x):=sj
  have pI:vP=.slice (some ⟨gg,0,none⟩) 1 cap:=xw
  rw[pI]at cP
  rw[k,show cu 10=10 from rfl]at cK
  rw[decide_eq_false (by omega)]at hk
  have hT:=xA hI hS x a false t s s' mv (w.drewN 1) ha wv (ZC 1) hk
  clear ke WN sj xw pI
  unfold aw aO at *
  generalize I.P.getD i 0=pq at *
  generalize I.P.getD x 0=px at *
  clear hk
  all_goals
   go_enter Tryz.func179,Tryz.ntmps179
   go_wp2_with fail
   go_region_with (go_at_call 196;refine hT.mono ?_;rintro e w1 ⟨rfl,Fk,h1,vQ⟩)
   all_goals
    go_wp2
    go_ret
    exact⟨rfl,_,h1,(hFd 1).trans vQ⟩
theorem BN {I:Wi}(hI:Ic I)(hX:Ix I):∀f,lA I f
 | 0=>fun i a s t s' mv w _ _ _ h=>by cases h
 | f+1=>GZ hI (Lh hI hX (BN hI hX f))
def zS (w:World):Prop:=TabAt 0 Lib.deBruijn64tab w
theorem zS.kept {S:Nat->Prop}{w w':World}(h:zS w)(hk:aa S w w')(h0:¬S 0):zS w':=by
 intro j hj
 have h1:=h j hj
 rw[<-h1]
 exact hk.cell (p:=⟨0,j,none⟩) (av h1) h0
theorem Ia (x k idx:Nat)(w:World)(jY:((x:Int) == 0)=false)
  (key:IntKind.u64.wrap (bits BinOp.and IntKind.u64 (x:Int) (IntKind.u64.wrap (-(x:Int)))*285870213051353865) / 288230376151711744=(idx:Int))
  (hi:idx<64) (hk:k<64) (jr:w.cell? ⟨0,idx,none⟩=some (.int .u8 (k:Int))):
  Calls Tryz.prog 153 #[.int .u64 (x:Int)] w fun e w'=>e=.returned (.int .i64 (k:Int))/\w'=w:=by
 go_enter Tryz.func153,Tryz.ntmps153
 go_wp2_with (simp only[key])
 go_ret
 exact⟨rfl,rfl⟩
theorem Mm (x:Nat)(jY:x≠0)(hx:x<18446744073709551616)(w:World)(hT:zS w):
  Calls Tryz.prog 153 #[.int .u64 (x:Int)] w fun e w'=>e=.returned (.int .i64 (Lib.ctz 64 x:Nat))/\w'=w:=by
 obtain⟨ew,hk⟩:=Lib.lowest_bit 64 x jY hx
 obtain⟨hi,qbO⟩:=Lib.deBruijn64_at _ hk
 refine Ia x _ _ w (by simp;omega) (tz64_key x _ hx jY ew) hi hk ?_
 have h:=hT _ hi
 rw[qbO]at h
 exact h
theorem GW (c q:Nat):(2^c*(2*q+1)) &&& (2^c*(2*q+1)-1)=2^c*(2*q):=by
 have hp:0<2^c:=Nat.two_pow_pos c
 have e1:2^c*(2*q+1)-1=2^c*(2*q)+(2^c-1):=by rw[Nat.mul_add];omega
 rw[e1]
 apply Nat.eq_of_testBit_eq
 intro j
 rw[Nat.testBit_and]
 have h1:=Nat.testBit_two_pow_mul_add (2*q+1) (b:=0) (i:=c) hp j
 have h2:=Nat.testBit_two_pow_mul_add (2*q) (b:=2^c-1) (i:=c) (by omega) j
 have h3:=Nat.testBit_two_pow_mul_add (2*q) (b:=0) (i:=c) hp j
 rw[Nat.add_zero]at h1 h3
 rw[h1,h2,h3]
 by_cases hj:j<c
 ·simp[hj]
 ·simp only[hj,if_false]
  cases hjc:j-c with
  | zero=>simp
  | succ n=>
   rw[Nat.testBit_succ,Nat.testBit_succ,show (2*q+1) / 2=q by omega,show 2*q / 2=q by omega,Bool.and_self]
def vw (m:Nat):List Nat:=(List.range 64).filter (fun t=>m.testBit t)
structure Um (m k left:Nat):Prop where
 le:k<=64
 bit:∀t,left.testBit t=(m.testBit t&&decide (k<=t))
theorem Um.next {m k left:Nat}(h:Um m k left)(h0:left≠0)(hl:left<18446744073709551616):Lib.ctz 64 left<64/\Um m (Lib.ctz 64 left+1) (left &&& (left-1))/\(List.range (Lib.ctz 64 left+1)).filter (fun t=>m.testBit t)=(List.range k).filter (fun t=>m.testBit t)++[Lib.ctz 64 left]:=by
 obtain⟨q,hq,hc⟩:=Lib.ctzFrom_spec 64 left (by omega) hl
 have Xb:Lib.ctz 64 left=Lib.ctzFrom 64 left:=by unfold Lib.ctz;rw[if_neg h0]
 rw[Xb]
 generalize Lib.ctzFrom 64 left=c at *
 have v8:∀t,left.testBit t=if t<c then false else (2*q+1).testBit (t-c):=by
  intro t
  have h1:=Nat.testBit_two_pow_mul_add (2*q+1) (b:=0) (i:=c) (Nat.two_pow_pos c) t
  rw[Nat.add_zero,<-hq]at h1
  rw[h1];simp
 have fS:left.testBit c=true:=by rw[v8 c];simp
 have xk:k<=c/\m.testBit c=true:=by
  have:=h.bit c
  rw[fS]at this
  simp at this
  exact⟨this.2,this.1⟩
 have kh:∀t,k<=t->t<c->m.testBit t=false:=by
  intro t h1 h2
  have h3:=h.bit t
  rw[v8 t,if_pos h2]at h3
  simpa [h1] using h3.symm
 have ri:left &&& (left-1)=2^c*(2*q):=by rw[hq];exact GW c q
 refine⟨hc,⟨by omega,fun t=>?_⟩,?_⟩
 ·have h3:=Nat.testBit_two_pow_mul_add (2*q) (b:=0) (i:=c) (Nat.two_pow_pos c) t
  rw[Nat.add_zero]at h3
  rw[ri,h3]
  by_cases ht:t<c
  ·simp[ht];omega
  ·rw[if_neg ht]
   by_cases htc:t=c
   ·subst htc;simp
   ·have h4:=h.bit t
    rw[v8 t,if_neg ht]at h4
    have h5:decide (k<=t)=true:=by simp;omega
    rw[h5,Bool.and_true]at h4
    have h6:decide (c+1<=t)=true:=by simp;omega
    rw[h6,Bool.and_true,<-h4]
    obtain⟨n,hn⟩:∃n,t-c=n+1:=⟨t-c-1,by omega⟩
    rw[hn,Nat.testBit_succ,Nat.testBit_succ]
    congr 1;omega
 ·rw[List.range_succ,List.filter_append]
  have h7:List.filter (fun t=>m.testBit t) [c]=[c]:=by simp[xk.2]
  rw[h7]
  congr 1
  obtain⟨d,rfl⟩:∃d,c=k+d:=⟨c-k,by omega⟩
  rw[List.range_add,List.filter_append]
  have h8:List.filter (fun t=>m.testBit t) (List.map (k+·) (List.range d))=[]:=by
   rw[List.filter_eq_nil_iff]
   intro t ht
   simp at ht
   obtain⟨e,h9,rfl⟩:=ht
   rw[kh _ (by omega) (by omega)];simp
  rw[h8,List.append_nil]
theorem Um.done {m k:Nat}(h:Um m k 0):(List.range k).filter (fun t=>m.testBit t)=vw m:=by
 unfold vw
 obtain⟨d,hd⟩:∃d,64=k+d:=⟨64-k,by have:=h.le;omega⟩
 rw[hd,List.range_add,List.filter_append]
 have h8:List.filter (fun t=>m.testBit t) (List.map (k+·) (List.range d))=[]:=by
  rw[List.filter_eq_nil_iff]
  intro t ht
  simp at ht
  obtain⟨e,h9,rfl⟩:=ht
  have:=h.bit (k+e)
  simp at this
  simp[this]
 rw[h8,List.append_nil]
theorem QH:(Tryz.prog.info? 3).map (fun i=>(i.zero,i.size,i.bytes))=some (some (.int .i64 0),1,8):=by kernel_rfl
def wA (n:Nat):Value:=.int .i64 (n:Int)
structure VU (m:Nat)(w:World)(e:Ending)(w':World):Prop where
 ex:∃v,e=.returned v/\w'.ownsRow w.heap.size 3 1 v (vw m).length ((vw m).map wA)
 kept:aa (fun _=>False) w w'
structure NbI (m:Nat)(w:World)(v:Value)(left:Nat)(wx:World)(k:Nat):Prop where
 bt:Um m k left
 own:wx.ownsRow w.heap.size 3 1 v ((List.range k).filter (fun t=>m.testBit t)).length (((List.range k).filter (fun t=>m.testBit t)).map wA)
 kept:aa (fun _=>False) w wx
theorem Bp (wk:Nat)(m:Nat)(w:World)(hT:zS w)(h7:w.cell? ⟨wk,7,none⟩=some (.int .u64 (m:Int)))(hm:m<18446744073709551616):
  Calls Tryz.prog 106 #[.pointer (some ⟨wk,6,none⟩)] w fun e w'=>VU m w e w':=by
 obtain⟨i0,iC,gH,iD,iz⟩:=info_parts QH
 have h0l:(0:Nat)<w.heap.size:=av (hT 0 (by decide))
 go_enter Tryz.func106,Tryz.ntmps106
 go_wp2
 go_loopg [3,4] m (fun n v3 v4 wx=>∃k,v4=.int .u64 (n:Int)/\n<=m/\NbI m w v3 n wx k)
 case atStart=>
  exact⟨0,rfl,Nat.le_refl _,⟨⟨by omega,fun t=>by simp⟩,World.ownsRow_nil _ _ _ _,aa.refl _ _⟩⟩
 case round=>
  obtain⟨k,rfl,nj,hI⟩:=hrel
  by_cases Xk:gk=0
  ·subst Xk
   have hd:=hI.bt.done
   obtain⟨p,cp,hv⟩:=an hI.own
   subst hv
   have bW:=hI.own
   rw[hd]at bW
   have hK:=hI.kept
   clear hI
   rw[hd]
   generalize hB:vw m=B at *
   have HB:=ae hB
   clear hB
   go_wp2
   go_ret
   exact⟨⟨.slice p B.length cp,rfl,by rw[HB.out];exact bW⟩,hK⟩
  ·have lV:gk<18446744073709551616:=by omega
   obtain⟨n1,n2,n3⟩:=hI.bt.next Xk lV
   have hTr:zS wr:=hT.kept hI.kept (fun x=>x)
   have htz:=Mm gk Xk lV wr hTr
   obtain⟨c,hc⟩:∃c,c=Lib.ctz 64 gk:=⟨_,rfl⟩
   rw[<-hc]at n1 n2 n3 htz
   obtain⟨p,cp,hv⟩:=an hI.own
   obtain⟨A,hA⟩:∃A,A=(List.range k).filter (fun t=>m.testBit t):=⟨_,rfl⟩
   have bW:=hI.own
   rw[<-hA]at bW hv n3
   have hAl:A.length<=64:=by
    rw[hA]
    exact Nat.le_trans (List.length_filter_le _ _) (by simp;exact hI.bt.le)
   have hK:=hI.kept
   have gh:=hK.size
   have hq:¬((gk:Int)=0):=by omega
   obtain⟨g2,Nb⟩:∃g2,g2=gk &&& (gk-1):=⟨_,rfl⟩
   have qay:bits BinOp.and IntKind.u64 (gk:Int) ((gk:Int)-1)=(g2:Int):=by
    have:=NN (x:=gk) (y:=gk-1) (by omega) (by omega)
    rw[Nb,<-this]
    congr 1;omega
   have Yn:IntKind.u64.wrap ((gk:Int)-1)=(gk:Int)-1:=by
    have:=qp (x:=gk-1) (by omega)
    rw[show ((gk:Int)-1)=((gk-1:Nat):Int) by omega];exact this
   have qcH:g2<gk:=by rw[Nb];have:=Nat.and_le_right (n:=gk) (m:=gk-1);omega
   rw[<-Nb]at n2
   clear hI hc hA Nb
   subst hv
   go_wp2_with fail
   refine htz.mono ?_
   rintro e w1 ⟨rfl,rfl⟩
   go_wp2_with (first | simp only[qay,Yn] | (at_builtin;refine wpList_append_lies _ rfl _ _ _ rfl w.heap.size 3 i0 _ 1 8 Tryz.underlying29 iC gH iD iz rfl (by omega) (.slice p A.length cp) A.length (A.map wA) (by rfl) (bW.alloc _) ⟨w1.heap.size,0,none⟩ 1 1 [.int .i64 (c:Int)] (by rfl) rfl (World.news_of_block (cs:=#[.int .i64 (c:Int)]) (t:=3) (fr:=(0,0)) (heap_alloc_new w1 _)) (by simp[Value.oneCell']) (by omega) (by simp[maxLen];omega) (by omega) (by simp;omega) (w1.heap.size+1) (by simp) ?_;intro gg cap w9 hown9 hgrow dA bj))
   go_roundg g2
   case measure=>omega
   case rel=>
    refine⟨c+1,rfl,by omega,⟨n2,?_,?_⟩⟩
    ·rw[n3,List.length_append,List.map_append]
     exact hown9
    ·exact(hK.alloc _).grown hgrow (fun k hk Ow=>by have:=(bW.lt k hk).1;omega)





theorem Jh {s:Nat->Option Ot}(h:∀j o,s j=some o->o.tr.length<=o.rn):∀l o,iP s l=some o->o.tr.length<=o.rn
 | [],o,ho=>by
  rw[iP]at ho
  have:=Option.some.inj ho
  subst this
  exact Nat.le_refl _
 | j :: l,o,ho=>by
  rw[iP]at ho
  cases hj:s j with
  | none=>rw[hj]at ho;cases ho
  | some p=>
   rw[hj]at ho
   simp only at ho
   split at ho
   ·have:=Option.some.inj ho
    subst this
    exact h j _ hj
   ·cases hl:iP s l with
    | none=>rw[hl]at ho;cases ho
    | some q=>
     rw[hl]at ho
     have:=Option.some.inj ho
     subst this
     have:=Jh h l q hl
     show q.tr.length<=p.rn+q.rn
     omega
theorem L8 {s:Nat->Nat->Option Ot}(h:∀j a o,s j a=some o->o.tr.length<=o.rn):∀l a o,iE s l a=some o->o.tr.length<=o.rn
 | [],a,o,ho=>by
  rw[iE]at ho
  have:=Option.some.inj ho
  subst this
  exact Nat.le_refl _
 | j :: l,a,o,ho=>by
  rw[iE]at ho
  cases hj:s j a with
  | none=>rw[hj]at ho;cases ho
  | some p=>
   rw[hj]at ho
   simp only at ho
   cases hp:p.to with
   | none=>
    rw[hp]at ho
    have:=Option.some.inj ho
    subst this
    exact Nat.zero_le _
   | some u=>
    rw[hp]at ho
    simp only at ho
    cases hl:iE s l u with
    | none=>rw[hl]at ho;cases ho
    | some q=>
     rw[hl]at ho
     have:=Option.some.inj ho
     subst this
     have h1:=h j a p hj
     have h2:=L8 h l u q hl
     show (if q.to.isSome then p.tr++q.tr else []).length<=p.rn+q.rn
     split
     ·rw[List.length_append];omega
     ·exact Nat.zero_le _
theorem DP {s:Nat->Option Ot}(h:∀a o,s a=some o->o.tr.length<=o.rn):∀f a o,gy s f a=some o->o.tr.length<=o.rn
 | 0,_,_,ho=>by cases ho
 | f+1,a,o,ho=>by
  rw[gy]at ho
  cases hj:s a with
  | none=>rw[hj]at ho;cases ho
  | some p=>
   rw[hj]at ho
   simp only at ho
   cases hp:p.to with
   | none=>
    rw[hp]at ho
    have:=Option.some.inj ho
    subst this
    exact Nat.zero_le _
   | some u=>
    rw[hp]at ho
    simp only at ho
    cases hl:gy s f u with
    | none=>rw[hl]at ho;cases ho
    | some q=>
     rw[hl]at ho
     have:=Option.some.inj ho
     subst this
     have h1:=h a p hj
     have h2:=DP h f u q hl
     show (p.tr++q.tr).length<=p.rn+q.rn
     rw[List.length_append];omega
theorem zc {b:Nat->Nat}{len:Nat}{rs:List Rl}{ns:List Nd}:∀f i a dp o,bR b len rs ns f i a dp=some o->o.tr.length<=o.rn
 | 0,_,_,_,_,h=>by cases h
 | f+1,i,a,dp,o,h=>by
  have ih:=zc (b:=b) (len:=len) (rs:=rs) (ns:=ns) f
  rw[bR]at h
  split at h
  ·have:=Option.some.inj h
   subst this
   exact Nat.le_refl _
  split at h
  ·cases hx:bR b len rs ns f (cL rs (dI rs (ap ns i))) a (dp+1) with
   | none=>rw[hx]at h;cases h
   | some p=>
    rw[hx]at h
    have:=Option.some.inj h
    subst this
    have:=ih _ _ _ p hx
    show (match p.to with | some t=>(⟨dI rs (ap ns i),a,t,dp⟩:Ie) :: p.tr | none=>([]:List Ie)).length<=p.rn+1
    cases p.to with
    | none=>exact Nat.zero_le _
    | some t=>simp;omega
  split at h
  ·exact Jh (fun j o h1=>ih _ _ _ o h1) _ o h
  split at h
  ·exact L8 (fun j a o h1=>ih _ _ _ o h1) _ _ o h
  split at h
  ·cases hx:bR b len rs ns f ((ap ns i).subs.getD 0 0) a dp with
   | none=>rw[hx]at h;cases h
   | some p=>
    rw[hx]at h
    have:=Option.some.inj h
    subst this
    have:=ih _ _ _ p hx
    dsimp only
    split
    ·exact Nat.zero_le _
    ·exact this
  split at h
  ·exact DP (fun a o h1=>ih _ _ _ o h1) _ _ o h
  split at h
  ·cases hx:bR b len rs ns f ((ap ns i).subs.getD 0 0) a dp with
   | none=>rw[hx]at h;cases h
   | some p=>
    rw[hx]at h
    simp only at h
    cases hp:p.to with
    | none=>
     rw[hp]at h
     have:=Option.some.inj h
     subst this
     exact Nat.zero_le _
    | some u=>
     rw[hp]at h
     simp only at h
     cases hl:gy (fun a=>bR b len rs ns f ((ap ns i).subs.getD 0 0) a dp) f u with
     | none=>rw[hl]at h;cases h
     | some q=>
      rw[hl]at h
      have:=Option.some.inj h
      subst this
      have h1:=ih _ _ _ p hx
      have h2:=DP (fun a o h1=>ih _ _ _ o h1) f u q hl
      show (p.tr++q.tr).length<=p.rn+q.rn
      rw[List.length_append];omega
  ·cases hx:bR b len rs ns f ((ap ns i).subs.getD 0 0) a dp with
   | none=>rw[hx]at h;cases h
   | some p=>
    rw[hx]at h
    have:=Option.some.inj h
    subst this
    exact Nat.zero_le _
def mY:Option Nat->Int
 | none=>-1
 | some t=>(t:Int)
theorem gq {x:Option Nat}:mY x=-1 ↔ x=none:=by
 cases x with
 | none=>simp[mY]
 | some t=>simp[mY]
structure iN where
 rule:Nat
 from_:Nat
 to:Int
 dep:Nat
def nI (n:Ie):iN:=⟨n.rule,n.from_,(n.to:Int),n.dep⟩
def Vf (k:Nat)(n:iN):iN:=⟨n.rule,n.from_,n.to,n.dep+k⟩
theorem QK (k:Nat)(l:List Ie):(l.map (shN k)).map nI=(l.map nI).map (Vf k):=by
 rw[List.map_map,List.map_map];rfl
mutual
def i8 (dp:Nat):Rs->List iN
 | .mk r a t c l=>⟨r,a,t,dp⟩ :: kt (dp+1) l
def kt (dp:Nat):List Rs->List iN
 | []=>[]
 | r :: l=>i8 dp r++kt dp l
end
theorem ng (dp:Nat):∀l m,kt dp (l++m)=kt dp l++kt dp m
 | [],m=>by simp[kt]
 | r :: l,m=>by rw[List.cons_append,kt,kt,ng dp l m,List.append_assoc]
mutual
theorem JF (k:Nat):∀(r:Rs) (dp:Nat),i8 (dp+k) r=(i8 dp r).map (Vf k)
 | .mk r a t c l,dp=>by
  rw[i8,i8,List.map_cons,show dp+k+1=dp+1+k by omega,ug k l (dp+1)]
  rfl
theorem ug (k:Nat):∀(l:List Rs) (dp:Nat),kt (dp+k) l=(kt dp l).map (Vf k)
 | [],dp=>by simp[kt]
 | r :: l,dp=>by rw[kt,kt,List.map_append,JF k r dp,ug k l dp]
end
theorem sr {k:Nat}:∀{l m:List iN},l.map (Vf k)=m.map (Vf k)->l=m
 | [],[],_=>rfl
 | [],_ :: _,h=>by simp at h
 | _ :: _,[],h=>by simp at h
 | a :: l,b :: m,h=>by
  rw[List.map_cons,List.map_cons,List.cons.injEq]at h
  have h2:=sr h.2
  obtain⟨a1,a2,a3,a4⟩:=a
  obtain⟨b1,b2,b3,b4⟩:=b
  have h1:=h.1
  simp[Vf]at h1
  obtain⟨e1,e2,e3,e4⟩:=h1
  subst e1;subst e2;subst e3;subst e4;rw[h2]
def Cw (s e:Int × Nat):Prop:=dt s e=s
theorem Cw.grow {s e:Int × Nat}(h:Cw s e)(x:Int × Nat):Cw (dt s x) e:=by
 unfold Cw at *
 obtain⟨s1,s2⟩:=s
 obtain⟨e1,e2⟩:=e
 obtain⟨x1,x2⟩:=x
 unfold dt at *
 dsimp only at *
 by_cases h1:s1<e1
 ·rw[if_pos h1]at h;simp at h;omega
 ·rw[if_neg h1]at h
  by_cases h2:s1=e1
  ·rw[if_pos h2]at h
   simp only[Prod.mk.injEq,true_and]at h
   subst h2
   by_cases h3:s1<x1
   ·rw[if_pos h3];dsimp only;rw[if_neg (by omega),if_neg (by omega)]
   ·rw[if_neg h3]
    by_cases h4:s1=x1
    ·rw[if_pos h4];dsimp only;rw[if_neg (by omega),if_pos rfl,Nat.or_assoc,Nat.or_comm x2 e2,<-Nat.or_assoc,h]
    ·rw[if_neg h4];dsimp only;rw[if_neg (by omega),if_pos rfl,h]
  ·by_cases h3:s1<x1
   ·rw[if_pos h3];dsimp only;rw[if_neg (by omega),if_neg (by omega)]
   ·rw[if_neg h3]
    by_cases h4:s1=x1
    ·rw[if_pos h4];dsimp only;rw[if_neg (by omega),if_neg (by omega)]
    ·rw[if_neg h4];dsimp only;rw[if_neg (by omega),if_neg (by omega)]
theorem Cw.self (s x:Int × Nat):Cw (dt s x) x:=by
 unfold Cw
 rw[fA]
 congr 1
 unfold dt
 rw[if_neg (by omega),if_pos rfl,Nat.or_self]
theorem yr {s x:Int × Nat}(h:-1<=s.1):-1<=(dt s x).1:=by
 unfold dt
 (repeat' split) <;> first | omega | (dsimp only;omega)
theorem As (e:Nat × Nat):cH [e]=((e.1:Int),2^e.2):=by
 unfold cH JD
 rw[List.foldl_cons,List.foldl_nil]
 unfold fI
 rw[if_pos (by dsimp only;omega)]
theorem zb {b:Nat->Nat}{len:Nat}{rs:List Rl}{ns:List Nd}{f g i a dp:Nat}{o p:Ot}(h:bR b len rs ns f i a dp=some o)(k:bR b len rs ns g i a dp=some p):o=p:=by
 have h1:=jZ h (Nat.le_max_left f g)
 have h2:=jZ k (Nat.le_max_right f g)
 rw[h1]at h2
 exact Option.some.inj h2
structure NG (r:Rs)(rule a:Nat)(o:Ot):Prop where
 rule:r.rule=rule
 from_:r.from_=a
 to:r.to=mY o.to
 cnt:r.cnt=o.rn+1
 tr:o.to.isSome=true->kt 0 r.inner=o.tr.map nI
structure Kc (K:Wc)(Br:Nat->Prop):Prop where
 wf:lK K.ns K.rs
 ru:∀i,i<K.ns.length->(ap K.ns i).kind=3->dI K.rs (ap K.ns i)<K.rs.length
 ch:∀r,r<K.rs.length->(ap K.ns (cL K.rs r)).kind=4
 sub:∀i,i<K.ns.length->∀j∈(ap K.ns i).subs,(ap K.ns j).kind=4->Br j
 inj:∀i j,i<K.ns.length->j<K.ns.length->Br i->Br j->K.br i=K.br j->i=j
 at_:∀f i a dp o t,i<K.ns.length->a<=K.len->bR K.b K.len K.rs K.ns f i a dp=some o->o.to=some t->a<=t/\t<=K.len
structure qF (K:Wc)(Br:Nat->Prop)(s:Wt):Prop where
 far:-1<=s.far.1
 ent:∀e∈s.mem.ent,e.1.inp=K.inp->∃f o,bR K.b K.len K.rs K.ns f (cL K.rs e.1.rule) e.1.place 0=some o/\NG e.2 e.1.rule e.1.place o/\Cw s.far (cH o.ev)
 kn:∀i a t,i<K.ns.length->a<=K.len->Br i->s.kn.getD (Cp K i a) none=some t->∃f o,bR K.b K.len K.rs K.ns f i a 0=some o/\o.rn=0/\o.tr=[]/\t=mY o.to/\Cw s.far (cH o.ev)
 cnt:s.dn<=s.cnt
 hit:s.mem.hits=0 ↔ s.dn=s.cnt
inductive Sm (K:Wc) (Br:Nat->Prop) (s:Wt) (o:Ot) (dp:Nat) (t:Int) (s':Wt):Prop
 | ok (inv:qF K Br s') (cnt:s'.cnt=s.cnt+o.rn) (most:s'.cnt<=K.most) (to:t=mY o.to) (far:s'.far=dt s.far (cH o.ev)) (mt:∃l,s'.mt=s.mt++l/\(o.to.isSome=true->kt dp l=o.tr.map nI))
 | sp (inv:qF K Br s') (cnt:K.most<s'.cnt) (most:K.most<s.cnt+o.rn)
theorem Sm.inv {K:Wc}{Br:Nat->Prop}{s:Wt}{o:Ot}{dp:Nat}{t:Int}{s':Wt}(h:Sm K Br s o dp t s'):qF K Br s':=by
 cases h with
 | ok a=>exact a
 | sp a=>exact a
structure Sk (K:Wc)(Br:Nat->Prop)(s:Wt)(o:Ot)(dp:Nat)(t:Int)(s':Wt):Prop where
 sm:Sm K Br s o dp t s'
 cut:s'.cnt<=K.most->o.to=none->s'.mt=s.mt
def wK (K:Wc)(Br:Nat->Prop)(f:Nat):Prop:=∀i a dp o,i<K.ns.length->((ap K.ns i).kind=4->Br i)->a<=K.len->bR K.b K.len K.rs K.ns f i a dp=some o->∀g,f<g->∀s,qF K Br s->∃t s',wM K g i a s=some (t,s')/\Sk K Br s o dp t s'
theorem vm {K:Wc}{g i a:Nat}{s:Wt}(hg:0<g)(h:K.most<s.cnt):wM K g i a s=some (-1,s):=by
 cases g with
 | zero=>omega
 | succ g=>rw[wM,if_pos h]
theorem nK {K:Wc}{g a:Nat}{s:Wt}(hg:0<g)(h:K.most<s.cnt):∀l,nJ (fun j s=>wM K g j a s) l s=some (-1,s)
 | []=>rfl
 | j :: l=>by rw[nJ,vm hg h];simp only[if_true];exact nK hg h l
theorem xV {K:Wc}{g:Nat}{s:Wt}(hg:0<g)(h:K.most<s.cnt):∀l a,∃t,tE (fun j a s=>wM K g j a s) l a s=some (t,s)
 | [],a=>⟨_,rfl⟩
 | j :: l,a=>by rw[tE,vm hg h];simp
theorem nL {K:Wc}{g i:Nat}{s:Wt}(hg:0<g)(h:K.most<s.cnt)(q a:Nat):vG (fun a s=>wM K g i a s) (q+1) a s=some ((a:Int),s):=by
 rw[vG,vm hg h];simp
theorem ll {b:Nat->Nat}{len:Nat}{rs:List Rl}{ns:List Nd}{f i a dp:Nat}{o:Ot}(h:bR b len rs ns f i a dp=some o):0<f:=by
 cases f with
 | zero=>cases h
 | succ f=>omega
theorem zy {K:Wc}{Br:Nat->Prop}{f:Nat}(hS:wK K Br f){a dp:Nat}(ha:a<=K.len):∀l o,(∀j∈l,j<K.ns.length/\((ap K.ns j).kind=4->Br j))->iP (fun j=>bR K.b K.len K.rs K.ns f j a dp) l=some o->∀g,f<g->∀s,qF K Br s->s.cnt<=K.most->∃t s',nJ (fun j s=>wM K g j a s) l s=some (t,s')/\Sm K Br s o dp t s'
 | [],o,_,h,g,hg,s,hI,hm=>by
  rw[iP]at h
  cases h
  exact⟨-1,s,rfl,.ok hI rfl hm rfl (kX hI.far).symm ⟨[],by simp,fun h=>by cases h⟩⟩
 | j :: l,o,hl,h,g,hg,s,hI,hm=>by
  rw[iP]at h
  cases hj:bR K.b K.len K.rs K.ns f j a dp with
  | none=>rw[hj]at h;cases h
  | some p=>
   rw[hj]at h
   simp only at h
   obtain⟨t1,s1,h1,h2⟩:=hS j a dp p (hl j (List.mem_cons_self ..)).1 (hl j (List.mem_cons_self ..)).2 ha hj g hg s hI
   rw[nJ,h1]
   simp only
   have yF:0<g:=by have:=ll hj;omega
   have GM:=h2.sm
   have hcut:=h2.cut
   cases GM with
   | sp inv cnt most=>
    have hor:s.cnt+p.rn<=s.cnt+o.rn:=by
     split at h
     ·cases h;omega
     ·cases hc:iP (fun j=>bR K.b K.len K.rs K.ns f j a dp) l with
      | none=>rw[hc]at h;cases h
      | some q=>rw[hc]at h;cases h;dsimp only;omega
    by_cases ht:t1=-1
    ·rw[if_pos ht,nK yF cnt l]
     exact⟨_,_,rfl,.sp inv cnt (by omega)⟩
    ·rw[if_neg ht]
     exact⟨_,_,rfl,.sp inv cnt (by omega)⟩
   | ok inv cnt most to far mt=>
    cases hp:p.to with
    | some u=>
     rw[hp]at h
     simp only[Option.isSome_some,if_true]at h
     cases h
     rw[if_neg (by rw[to,gq,hp];simp)]
     exact⟨_,_,rfl,.ok inv cnt most to far mt⟩
    | none=>
     rw[hp]at h
     simp only[Option.isSome_none]at h
     rw[if_neg (by simp)]at h
     rw[if_pos (by rw[to,gq,hp])]
     cases hc:iP (fun j=>bR K.b K.len K.rs K.ns f j a dp) l with
     | none=>rw[hc]at h;cases h
     | some q=>
      rw[hc]at h
      cases h
      obtain⟨t2,s2,h3,h4⟩:=zy hS ha l q (fun j hj=>hl j (List.mem_cons_of_mem _ hj)) hc g hg s1 inv most
      refine⟨t2,s2,h3,?_⟩
      cases h4 with
      | sp inv2 cnt2 most2=>exact .sp inv2 cnt2 (by dsimp only;omega)
      | ok inv2 cnt2 most2 to2 far2 mt2=>
       refine .ok inv2 (by dsimp only;omega) most2 to2 ?_ ?_
       ·dsimp only;rw[far2,far,fA,kr]
       ·rw[hcut most hp]at mt2;exact mt2
theorem FT {K:Wc}{Br:Nat->Prop}(hK:Kc K Br){f:Nat}(hS:wK K Br f){dp:Nat}:∀l a o,a<=K.len->(∀j∈l,j<K.ns.length/\((ap K.ns j).kind=4->Br j))->iE (fun j a=>bR K.b K.len K.rs K.ns f j a dp) l a=some o->∀g,f<g->∀s,qF K Br s->s.cnt<=K.most->∃t s',tE (fun j a s=>wM K g j a s) l a s=some (t,s')/\Sm K Br s o dp t s'
 | [],a,o,ha,_,h,g,hg,s,hI,hm=>by
  rw[iE]at h
  cases h
  exact⟨_,s,rfl,.ok hI rfl hm rfl (kX hI.far).symm ⟨[],by simp,fun h=>by simp[kt]⟩⟩
 | j :: l,a,o,ha,hl,h,g,hg,s,hI,hm=>by
  rw[iE]at h
  cases hj:bR K.b K.len K.rs K.ns f j a dp with
  | none=>rw[hj]at h;cases h
  | some p=>
   rw[hj]at h
   simp only at h
   obtain⟨t1,s1,h1,h2⟩:=hS j a dp p (hl j (List.mem_cons_self ..)).1 (hl j (List.mem_cons_self ..)).2 ha hj g hg s hI
   rw[tE,h1]
   simp only
   have yF:0<g:=by have:=ll hj;omega
   have GM:=h2.sm
   cases GM with
   | sp inv cnt most=>
    have hor:s.cnt+p.rn<=s.cnt+o.rn:=by
     cases hp:p.to with
     | none=>rw[hp]at h;cases h;simp
     | some u=>
      rw[hp]at h
      simp only at h
      cases hc:iE (fun j a=>bR K.b K.len K.rs K.ns f j a dp) l u with
      | none=>rw[hc]at h;cases h
      | some q=>rw[hc]at h;cases h;dsimp only;omega
    by_cases ht:t1=-1
    ·rw[if_pos ht]
     exact⟨_,_,rfl,.sp inv cnt (by omega)⟩
    ·rw[if_neg ht]
     obtain⟨t2,e2⟩:=xV yF cnt l t1.toNat
     exact⟨_,_,e2,.sp inv cnt (by omega)⟩
   | ok inv cnt most to far mt=>
    cases hp:p.to with
    | none=>
     rw[hp]at h
     cases h
     rw[if_pos (by rw[to,gq,hp])]
     obtain⟨l1,e1,_⟩:=mt
     exact⟨_,_,rfl,.ok inv cnt most rfl far ⟨l1,e1,fun h=>by cases h⟩⟩
    | some u=>
     rw[hp]at h to mt
     simp only at h
     have hu:=hK.at_ f j a dp p u (hl j (List.mem_cons_self ..)).1 ha hj hp
     rw[if_neg (by rw[to];simp[mY]),to]
     have Yi:(mY (some u)).toNat=u:=by simp[mY]
     rw[Yi]
     cases hc:iE (fun j a=>bR K.b K.len K.rs K.ns f j a dp) l u with
     | none=>rw[hc]at h;cases h
     | some q=>
      rw[hc]at h
      cases h
      obtain⟨t2,s2,h3,h4⟩:=FT hK hS l u q hu.2 (fun j hj=>hl j (List.mem_cons_of_mem _ hj)) hc g hg s1 inv most
      refine⟨t2,s2,h3,?_⟩
      cases h4 with
      | sp inv2 cnt2 most2=>exact .sp inv2 cnt2 (by dsimp only;omega)
      | ok inv2 cnt2 most2 to2 far2 mt2=>
       obtain⟨l1,e1,f1⟩:=mt
       obtain⟨l2,e2,f2⟩:=mt2
       refine .ok inv2 (by dsimp only;omega) most2 to2 ?_ ⟨l1++l2,by rw[e2,e1,List.append_assoc],?_⟩
       ·dsimp only;rw[far2,far,fA,kr]
       ·intro hq
        dsimp only at hq ⊢
        rw[if_pos hq,ng,f1 rfl,f2 hq,List.map_append]
theorem zD {K:Wc}{Br:Nat->Prop}(hK:Kc K Br){f:Nat}(hS:wK K Br f){dp i:Nat}(hi:i<K.ns.length)(hb:(ap K.ns i).kind=4->Br i):∀q a o,a<=K.len->gy (fun a=>bR K.b K.len K.rs K.ns f i a dp) q a=some o->∀g g',f<g->q<g'->∀s,qF K Br s->s.cnt<=K.most->∃t s',vG (fun a s=>wM K g i a s) g' a s=some (t,s')/\Sm K Br s o dp t s'
 | 0,a,o,ha,h,g,g',hg,nP,s,hI,hm=>by cases h
 | q+1,a,o,ha,h,g,g',hg,nP,s,hI,hm=>by
  rw[gy]at h
  obtain⟨g1,rfl⟩:∃g1,g'=g1+1:=⟨g' - 1,by omega⟩
  cases hj:bR K.b K.len K.rs K.ns f i a dp with
  | none=>rw[hj]at h;cases h
  | some p=>
   rw[hj]at h
   simp only at h
   obtain⟨t1,s1,h1,h2⟩:=hS i a dp p hi hb ha hj g hg s hI
   rw[vG,h1]
   simp only
   have yF:0<g:=by have:=ll hj;omega
   have GM:=h2.sm
   have hcut:=h2.cut
   cases GM with
   | sp inv cnt most=>
    have hor:s.cnt+p.rn<=s.cnt+o.rn:=by
     cases hp:p.to with
     | none=>rw[hp]at h;cases h;simp
     | some u=>
      rw[hp]at h
      simp only at h
      cases hc:gy (fun a=>bR K.b K.len K.rs K.ns f i a dp) q u with
      | none=>rw[hc]at h;cases h
      | some q=>rw[hc]at h;cases h;dsimp only;omega
    by_cases ht:t1=-1
    ·rw[if_pos ht]
     exact⟨_,_,rfl,.sp inv cnt (by omega)⟩
    ·rw[if_neg ht]
     obtain⟨g2,rfl⟩:∃g2,g1=g2+1:=⟨g1-1,by omega⟩
     rw[nL yF cnt]
     exact⟨_,_,rfl,.sp inv cnt (by omega)⟩
   | ok inv cnt most to far mt=>
    cases hp:p.to with
    | none=>
     rw[hp]at h
     cases h
     rw[if_pos (by rw[to,gq,hp])]
     exact⟨_,_,rfl,.ok inv cnt most rfl far ⟨[],by rw[hcut most hp];simp,fun h=>by simp[kt]⟩⟩
    | some u=>
     rw[hp]at h to mt
     simp only at h
     have hu:=hK.at_ f i a dp p u hi ha hj hp
     rw[if_neg (by rw[to];simp[mY]),to]
     have Yi:(mY (some u)).toNat=u:=by simp[mY]
     rw[Yi]
     cases hc:gy (fun a=>bR K.b K.len K.rs K.ns f i a dp) q u with
     | none=>rw[hc]at h;cases h
     | some q'=>
      rw[hc]at h
      cases h
      obtain⟨t2,s2,h3,h4⟩:=zD hK hS hi hb q u q' hu.2 hc g g1 hg (by omega) s1 inv most
      refine⟨t2,s2,h3,?_⟩
      cases h4 with
      | sp inv2 cnt2 most2=>exact .sp inv2 cnt2 (by dsimp only;omega)
      | ok inv2 cnt2 most2 to2 far2 mt2=>
       obtain⟨l1,e1,f1⟩:=mt
       obtain⟨l2,e2,f2⟩:=mt2
       refine .ok inv2 (by dsimp only;omega) most2 to2 ?_ ⟨l1++l2,by rw[e2,e1,List.append_assoc],?_⟩
       ·dsimp only;rw[far2,far,fA,kr]
       ·intro hq
        dsimp only at hq ⊢
        rw[ng,f1 rfl,f2 hq,List.map_append]
theorem mO {b:Nat->Nat}{len:Nat}{rs:List Rl}{ns:List Nd}{f i a dp:Nat}{o:Ot}(h:bR b len rs ns f i a dp=some o):∃o0,bR b len rs ns f i a 0=some o0/\o=vF dp o0:=by
 have h1:=Lp (b:=b) (len:=len) (rs:=rs) (ns:=ns) dp f i a 0
 rw[Nat.zero_add,h]at h1
 cases h0:bR b len rs ns f i a 0 with
 | none=>rw[h0]at h1;cases h1
 | some o0=>rw[h0]at h1;exact⟨o0,rfl,Option.some.inj h1⟩
def jx (rule a dp:Nat)(o:Ot):Ot:=⟨o.to,o.ev,o.rn+1,match o.to with | some t=>⟨rule,a,t,dp⟩ :: o.tr | none=>[]⟩
theorem qF.beg {K:Wc}{Br:Nat->Prop}{s:Wt}(h:qF K Br s):qF K Br (j8 s s.mem):=by
 refine⟨h.far,h.ent,h.kn,?_,?_⟩
 ·have:=h.cnt;show s.dn+1<=s.cnt+1;omega
 ·have:=h.hit;show s.mem.hits=0 ↔ s.dn+1=s.cnt+1;omega
theorem uh (dp:Nat)(r:Rs):i8 dp r=⟨r.rule,r.from_,r.to,dp⟩ :: kt (dp+1) r.inner:=by
 cases r with
 | mk a b c d e=>rw[i8];rfl
theorem NG.flat {r:Rs}{rule a dp:Nat}{o:Ot}(h:NG r rule a o)(hs:o.to.isSome=true):kt dp [r]=(jx rule a dp (vF (dp+1) o)).tr.map nI:=by
 cases ht:o.to with
 | none=>rw[ht]at hs;cases hs
 | some t=>
  simp only[kt,jx,vF,ht]
  have h2:=ug (dp+1) r.inner 0
  rw[Nat.zero_add,h.tr hs]at h2
  rw[uh,h2,h.rule,h.from_,h.to,ht,List.map_cons,QK]
  simp[mY,nI]
theorem BY {K:Wc}{Br:Nat->Prop}(hK:Kc K Br){f:Nat}(hS:wK K Br f){rule a dp:Nat}(hr:rule<K.rs.length)(ha:a<=K.len){o:Ot}(h:bR K.b K.len K.rs K.ns (f+1) (cL K.rs rule) a (dp+1)=some o):∀g,f<g->∀s,qF K Br s->s.cnt<=K.most->∃t s',lQ K (fun j s=>wM K g j a s) rule a s=some (t,s')/\Sm K Br s (jx rule a dp o) dp t s':=by
 intro g hg s hI hm
 have th:cL K.rs rule<K.ns.length:=by
  have:=hK.wf.is K.rs[rule] (List.getElem_mem hr)
  unfold cL;simp[List.getD_eq_getElem?_getD,hr];exact this
 obtain⟨o0,h0,rfl⟩:=mO h
 obtain⟨e1,e2,e3⟩:=jd K.mc s.mem ⟨K.inp,rule,a⟩
 unfold lQ
 cases hf:fh K.mc s.mem ⟨K.inp,rule,a⟩ with
 | mk q M=>
  rw[hf]at e1 e2 e3
  cases q with
  | some r=>
   simp only
   obtain⟨h1,h2⟩:=e2 r rfl
   simp only at h2
   obtain⟨f1,o1,h3,h4,h5⟩:=hI.ent _ h1 rfl
   have:=zb h0 h3
   subst this
   refine⟨_,_,rfl,?_⟩
   have Xa:r.cnt=o0.rn+1:=h4.cnt
   have nR:qF K Br { s with mem:=M,cnt:=s.cnt+r.cnt,mt:=s.mt++[r] }:=by
    refine⟨hI.far,fun e he hk=>hI.ent e (by rw[<-e1];exact he) hk,hI.kn,?_,?_⟩
    ·have:=hI.cnt;show s.dn<=s.cnt+r.cnt;omega
    ·have:=hI.cnt;show M.hits=0 ↔ s.dn=s.cnt+r.cnt;omega
   have gW:(jx rule a dp (vF (dp+1) o0)).rn=o0.rn+1:=rfl
   by_cases yO:K.most<s.cnt+r.cnt
   ·exact .sp nR yO (by rw[gW];omega)
   ·refine .ok nR (by rw[gW];show s.cnt+r.cnt=_;omega) (by show s.cnt+r.cnt<=_;omega) h4.to h5.symm ⟨[r],rfl,fun hs=>h4.flat hs⟩
  | none=>
   have hM:=e3 rfl
   simp only at hM ⊢
   subst hM
   have h':=h
   rw[bR,if_neg (by rw[hK.ch rule hr];omega),if_neg (by rw[hK.ch rule hr];omega),if_pos (hK.ch rule hr)]at h'
   have xj:(j8 s s.mem).cnt=s.cnt+1:=rfl
   have gW:(jx rule a dp (vF (dp+1) o0)).rn=o0.rn+1:=rfl
   by_cases hb:s.cnt+1<=K.most
   ·obtain⟨t,s1,h1,h2⟩:=zy hS ha _ _ (fun j hj=>⟨Nat.lt_trans ((be hK.wf.wf th).low j hj) th,hK.sub _ th j hj⟩) h' g hg (j8 s s.mem) hI.beg (by rw[xj];exact hb)
    rw[h1]
    simp only
    refine⟨_,_,rfl,?_⟩
    cases h2 with
    | sp inv cnt most=>
     have hw:(BW K rule a s t s1).mem=s1.mem:=by show (if K.most<s1.cnt then s1.mem else _)=_;rw[if_pos cnt]
     have nR:qF K Br (BW K rule a s t s1):=by
      refine⟨inv.far,?_,inv.kn,inv.cnt,?_⟩
      ·rw[hw];exact inv.ent
      ·rw[hw];exact inv.hit
     exact .sp nR cnt (by rw[gW];rw[xj]at most;have:(vF (dp+1) o0).rn=o0.rn:=rfl;omega)
    | ok inv cnt most to far mt=>
     obtain⟨l,el,fl⟩:=mt
     have UP:s1.mt=s.mt++l:=el
     have ZC:s1.mt.drop s.mt.length=l:=by rw[UP];simp
     have E0:s1.mt.take s.mt.length=s.mt:=by rw[UP];simp
     have kO:s1.cnt=s.cnt+1+o0.rn:=cnt
     have KT:NG (jJ rule a s t s1) rule a o0:=by
      refine⟨rfl,rfl,to,by show s1.cnt-s.cnt=_;omega,fun hs=>?_⟩
      show kt 0 (s1.mt.drop s.mt.length)=o0.tr.map nI
      rw[ZC]
      have h6:=fl hs
      have h7:=ug (dp+1) l 0
      rw[Nat.zero_add]at h7
      rw[h7]at h6
      exact sr (h6.trans (QK _ _))
     have hw:(BW K rule a s t s1).mem=eD K.mc s1.mem ⟨K.inp,rule,a⟩ (jJ rule a s t s1):=by show (if K.most<s1.cnt then s1.mem else _)=_;rw[if_neg (by omega)]
     have ku:s1.far=dt s.far (cH o0.ev):=far
     have nR:qF K Br (BW K rule a s t s1):=by
      refine⟨inv.far,?_,inv.kn,inv.cnt,?_⟩
      ·rw[hw]
       intro e he hk
       rcases(nl _ _ _ _).1 e he with h8 | h8
       ·exact inv.ent e h8 hk
       ·subst h8
        refine⟨_,o0,h0,KT,?_⟩
        show Cw s1.far _
        rw[ku];exact Cw.self _ _
      ·rw[hw,(nl _ _ _ _).2];exact inv.hit
     refine .ok nR (by rw[gW];show s1.cnt=_;omega) most to ku ⟨[jJ rule a s t s1],?_,fun hs=>KT.flat hs⟩
     show s1.mt.take s.mt.length++_=_
     rw[E0]
   ·have yF:0<g:=by omega
    rw[nK yF (by rw[xj];omega)]
    simp only
    refine⟨_,_,rfl,?_⟩
    have hw:(BW K rule a s (-1) (j8 s s.mem)).mem=s.mem:=by show (if K.most<s.cnt+1 then s.mem else _)=_;rw[if_pos (by omega)]
    have sh:=hI.beg
    have nR:qF K Br (BW K rule a s (-1) (j8 s s.mem)):=by
     refine⟨sh.far,?_,sh.kn,sh.cnt,?_⟩
     ·rw[hw];exact hI.ent
     ·rw[hw];exact sh.hit
    exact .sp nR (by show K.most<s.cnt+1;omega) (by rw[gW];omega)
theorem PA {K:Wc}{Br:Nat->Prop}(hK:Kc K Br){f:Nat}(hS:wK K Br f){i a dp:Nat}(hi:i<K.ns.length)(hb:Br i)(hk:(ap K.ns i).kind=4)(ha:a<=K.len){o:Ot}(uz:∀s:Wt,True)(h:bR K.b K.len K.rs K.ns (f+1) i a dp=some o):∀g,f<g->∀s,qF K Br s->s.cnt<=K.most->∃t s',Mu K (fun j s=>wM K g j a s) i a s=some (t,s')/\Sm K Br s o dp t s':=by
 intro g hg s hI hm
 obtain⟨o0,h0,rfl⟩:=mO h
 have h':=h
 rw[bR,if_neg (by rw[hk];omega),if_neg (by rw[hk];omega),if_pos hk]at h'
 unfold Mu
 cases hq:s.kn.getD (Cp K i a) none with
 | some t=>
  simp only
  obtain⟨f1,o1,h1,h2,h3,h4,h5⟩:=hI.kn i a t hi ha hb hq
  have:=zb h0 h1
  subst this
  refine⟨_,_,rfl,.ok hI (by show s.cnt=s.cnt+o0.rn;omega) hm h4 h5.symm ⟨[],by simp,fun _=>?_⟩⟩
  simp[kt,vF,h3]
 | none=>
  simp only
  obtain⟨t,s1,h1,h2⟩:=zy hS ha _ _ (fun j hj=>⟨Nat.lt_trans ((be hK.wf.wf hi).low j hj) hi,hK.sub _ hi j hj⟩) h' g hg s hI hm
  rw[h1]
  simp only
  refine⟨_,_,rfl,?_⟩
  cases h2 with
  | sp inv cnt most=>
   rw[if_neg (by omega)]
   exact .sp inv cnt most
  | ok inv cnt most to far mt=>
   by_cases hc:s1.cnt=s.cnt
   ·rw[if_pos hc]
    have gW:o0.rn=0:=by have h5:s1.cnt=s.cnt+o0.rn:=cnt;omega
    have E1:o0.tr=[]:=by
     have:=zc _ _ _ _ _ h0
     rw[gW]at this
     exact List.eq_nil_of_length_eq_zero (by omega)
    refine .ok ⟨inv.far,inv.ent,?_,inv.cnt,inv.hit⟩ cnt most to far mt
    intro i2 a2 t2 UT ha2 eL ki
    by_cases he:i2=i/\a2=a
    ·obtain⟨rfl,rfl⟩:=he
     have EZ:t=t2:=by
      simp only[List.getD_eq_getElem?_getD,List.getElem?_set]at ki
      simp only[if_true]at ki
      split at ki
      ·simpa using ki
      ·simp at ki
     rw[<-EZ]
     refine⟨_,o0,h0,gW,E1,to,?_⟩
     show Cw s1.far _
     rw[far];exact Cw.self _ _
    ·have eW:Cp K i a≠Cp K i2 a2:=by
      intro e
      unfold Cp at e
      have UL:K.br i=K.br i2:=by
       rcases Nat.lt_trichotomy (K.br i) (K.br i2) with bj | Sp | bj
       ·exfalso
        have h5:(K.br i+1)*(K.len+1)<=K.br i2*(K.len+1):=Nat.mul_le_mul_right _ bj
        rw[Nat.succ_mul]at h5
        omega
       ·exact Sp
       ·exfalso
        have h5:(K.br i2+1)*(K.len+1)<=K.br i*(K.len+1):=Nat.mul_le_mul_right _ bj
        rw[Nat.succ_mul]at h5
        omega
      have h5:=hK.inj i i2 hi UT hb eL UL
      subst h5
      exact he ⟨rfl,by omega⟩
     refine inv.kn i2 a2 t2 UT ha2 eL ?_
     simp only[List.getD_eq_getElem?_getD,List.getElem?_set_ne eW]at ki ⊢
     exact ki
   ·rw[if_neg hc]
    exact .ok inv cnt most to far mt
theorem Sm.cutS {K:Wc}{Br:Nat->Prop}{s:Wt}{o:Ot}{dp:Nat}{x:Int × Wt}(h:Sm K Br s o dp x.1 x.2):Sk K Br s o dp (rT s.mt.length x).1 (rT s.mt.length x).2:=by
 obtain⟨t,s'⟩:=x
 have nR:∀n,qF K Br s'->qF K Br { s' with mt:=s'.mt.take n }:=fun n h=>⟨h.far,h.ent,h.kn,h.cnt,h.hit⟩
 unfold rT
 dsimp only at h ⊢
 cases h with
 | sp inv cnt most=>
  by_cases ht:t=-1
  ·rw[if_pos ht]
   exact⟨.sp (nR _ inv) cnt most,fun h=>absurd h (by show ¬s'.cnt<=_;omega)⟩
  ·rw[if_neg ht]
   exact⟨.sp inv cnt most,fun h=>absurd h (by show ¬s'.cnt<=_;omega)⟩
 | ok inv cnt most to far mt=>
  obtain⟨l,e,fl⟩:=mt
  by_cases ht:t=-1
  ·rw[if_pos ht]
   have hn:=gq.1 (to ▸ ht)
   have E0:s'.mt.take s.mt.length=s.mt:=by rw[e];simp
   exact⟨.ok (nR _ inv) cnt most to far ⟨[],by simp[E0],fun h=>by rw[hn]at h;cases h⟩,fun _ _=>E0⟩
  ·rw[if_neg ht]
   exact⟨.ok inv cnt most to far ⟨l,e,fl⟩,fun _ h=>absurd (to.trans (gq.2 h)) ht⟩
theorem jA {K:Wc}{Br:Nat->Prop}(hK:Kc K Br):∀f,wK K Br f
 | 0=>fun i a dp o _ _ _ h=>by cases h
 | f+1=>by
  have hS:=jA hK f
  intro i a dp o hi hb ha h g hg s hI
  obtain⟨g,rfl⟩:∃g1,g=g1+1:=⟨g-1,by omega⟩
  have nP:f<g:=by omega
  rw[wM]
  by_cases hm:K.most<s.cnt
  ·rw[if_pos hm]
   exact⟨_,_,rfl,.sp hI hm (by omega),fun h=>absurd h (by omega)⟩
  rw[if_neg hm]
  have rt:s.cnt<=K.most:=by omega
  suffices hx:∃t s',Cu K (wM K g) g i a s=some (t,s')/\Sm K Br s o dp t s' by
   obtain⟨t,s',h1,h2⟩:=hx
   rw[h1]
   have:=Sm.cutS (x:=(t,s')) h2
   exact⟨_,_,rfl,this⟩
  have iJ:=be hK.wf.wf hi
  have dL:∀j∈(ap K.ns i).subs,j<K.ns.length/\((ap K.ns j).kind=4->Br j):=fun j hj=>⟨Nat.lt_trans (iJ.low j hj) hi,hK.sub _ hi j hj⟩
  have h':=h
  unfold Cu
  rw[bR]at h
  split at h
  ·next k=>
   rw[if_pos k]
   cases h
   refine⟨_,_,rfl,?_⟩
   unfold Md
   cases ht:mX K.b K.len (ap K.ns i) a with
   | some t=>exact .ok hI rfl rt rfl (kX hI.far).symm ⟨[],by simp,fun _=>by simp[kt]⟩
   | none=>
    have Gz:fI s.far (a,(ap K.ns i).term)=dt s.far (cH [(a,(ap K.ns i).term)]):=by rw[As,po]
    refine .ok ⟨?_,?_,?_,hI.cnt,hI.hit⟩ rfl rt rfl Gz ⟨[],by simp,fun h=>by cases h⟩
    ·show -1<=(fI s.far (a,(ap K.ns i).term)).1
     rw[Gz];exact yr hI.far
    ·intro e he hk
     obtain⟨f1,o1,h1,h2,h3⟩:=hI.ent e he hk
     refine⟨f1,o1,h1,h2,?_⟩
     show Cw (fI s.far (a,(ap K.ns i).term)) _
     rw[Gz];exact h3.grow _
    ·intro i2 a2 t2 e1 e2 e3 e4
     obtain⟨f1,o1,h1,h2,h3,h4,h5⟩:=hI.kn i2 a2 t2 e1 e2 e3 e4
     refine⟨f1,o1,h1,h2,h3,h4,?_⟩
     show Cw (fI s.far (a,(ap K.ns i).term)) _
     rw[Gz];exact h5.grow _
  next k2=>
  rw[if_neg k2]
  split at h
  ·next k=>
   rw[if_pos k]
   cases hc:bR K.b K.len K.rs K.ns f (cL K.rs (dI K.rs (ap K.ns i))) a (dp+1) with
   | none=>rw[hc]at h;cases h
   | some p=>
    rw[hc]at h
    cases h
    obtain⟨f0,rfl⟩:∃f0,f=f0+1:=⟨f-1,by have:=ll hc;omega⟩
    have rd:=jA hK f0
    exact BY hK rd (hK.ru i hi k) ha hc g (by omega) s hI rt
  next k3=>
  rw[if_neg k3]
  split at h
  ·next k=>
   rw[if_pos k]
   exact PA hK hS hi (hb k) k ha (fun _=>trivial) h' g nP s hI rt
  next k4=>
  rw[if_neg k4]
  split at h
  ·next k=>
   rw[if_pos k]
   exact FT hK hS _ a o ha dL h g nP s hI rt
  next k5=>
  rw[if_neg k5]
  have hx:=DZ hK.wf.wf hi (by omega)
  have jY:=dL ((ap K.ns i).subs.getD 0 0) (by rw[hx.1];simp)
  generalize (ap K.ns i).subs.getD 0 0=x at *
  split at h
  ·next k=>
   rw[if_pos k]
   cases hc:bR K.b K.len K.rs K.ns f x a dp with
   | none=>rw[hc]at h;cases h
   | some p=>
    rw[hc]at h
    simp only[Option.map_some,Option.some.injEq]at h
    obtain⟨t1,s1,h1,h2⟩:=hS x a dp p jY.1 jY.2 ha hc g nP s hI
    rw[h1]
    simp only[Option.map_some]
    have GM:=h2.sm
    have hcut:=h2.cut
    have gW:o.rn=p.rn:=by rw[<-h];split <;> rfl
    cases GM with
    | sp inv cnt most=>
     split
     ·exact⟨_,_,rfl,.sp inv cnt (by omega)⟩
     ·exact⟨_,_,rfl,.sp inv cnt (by omega)⟩
    | ok inv cnt most to far mt=>
     cases hp:p.to with
     | none=>
      rw[if_pos (by rw[hp];rfl)]at h
      rw[if_pos (by rw[to,hp];rfl)]
      subst h
      exact⟨_,_,rfl,.ok inv cnt most rfl far ⟨[],by rw[hcut most hp];simp,fun _=>by simp[kt]⟩⟩
     | some u=>
      rw[if_neg (by rw[hp];simp)]at h
      rw[if_neg (by rw[to,gq,hp];simp)]
      subst h
      exact⟨_,_,rfl,.ok inv cnt most to far mt⟩
  next k6=>
  rw[if_neg k6]
  split at h
  ·next k=>
   rw[if_pos k]
   exact zD hK hS jY.1 jY.2 f a o ha h g g nP nP s hI rt
  next k7=>
  rw[if_neg k7]
  split at h
  ·next k=>
   rw[if_pos k]
   cases hc:bR K.b K.len K.rs K.ns f x a dp with
   | none=>rw[hc]at h;cases h
   | some p=>
    rw[hc]at h
    simp only at h
    obtain⟨t1,s1,h1,h2⟩:=hS x a dp p jY.1 jY.2 ha hc g nP s hI
    rw[h1]
    simp only
    have GM:=h2.sm
    have yF:0<g:=by omega
    cases GM with
    | sp inv cnt most=>
     have hor:s.cnt+p.rn<=s.cnt+o.rn:=by
      cases hp:p.to with
      | none=>rw[hp]at h;cases h;simp
      | some u=>
       rw[hp]at h
       simp only at h
       cases hc:gy (fun a=>bR K.b K.len K.rs K.ns f x a dp) f u with
       | none=>rw[hc]at h;cases h
       | some q=>rw[hc]at h;cases h;dsimp only;omega
     by_cases ht:t1=-1
     ·rw[if_pos ht]
      exact⟨_,_,rfl,.sp inv cnt (by omega)⟩
     ·rw[if_neg ht]
      obtain⟨g2,Nb⟩:∃g2,g=g2+1:=⟨g-1,by omega⟩
      have:=nL (K:=K) (i:=x) yF cnt g2 t1.toNat
      rw[<-Nb]at this
      rw[this]
      exact⟨_,_,rfl,.sp inv cnt (by omega)⟩
    | ok inv cnt most to far mt=>
     cases hp:p.to with
     | none=>
      rw[hp]at h
      cases h
      rw[if_pos (by rw[to,hp];rfl)]
      obtain⟨l1,e1,_⟩:=mt
      exact⟨_,_,rfl,.ok inv cnt most rfl far ⟨l1,e1,fun h=>by cases h⟩⟩
     | some u=>
      rw[hp]at h to mt
      simp only at h
      have hu:=hK.at_ f x a dp p u jY.1 ha hc hp
      rw[if_neg (by rw[to];simp[mY]),to]
      have Yi:(mY (some u)).toNat=u:=by simp[mY]
      rw[Yi]
      cases gB:gy (fun a=>bR K.b K.len K.rs K.ns f x a dp) f u with
      | none=>rw[gB]at h;cases h
      | some q'=>
       rw[gB]at h
       cases h
       obtain⟨t2,s2,h3,h4⟩:=zD hK hS jY.1 jY.2 f u q' hu.2 gB g g nP nP s1 inv most
       refine⟨t2,s2,h3,?_⟩
       cases h4 with
       | sp inv2 cnt2 most2=>exact .sp inv2 cnt2 (by dsimp only;omega)
       | ok inv2 cnt2 most2 to2 far2 mt2=>
        obtain⟨l1,e1,f1⟩:=mt
        obtain⟨l2,e2,f2⟩:=mt2
        refine .ok inv2 (by dsimp only;omega) most2 to2 ?_ ⟨l1++l2,by rw[e2,e1,List.append_assoc],?_⟩
        ·dsimp only;rw[far2,far,fA,kr]
        ·intro hq
         dsimp only at hq ⊢
         rw[ng,f1 rfl,f2 hq,List.map_append]
  next k8=>
  rw[if_neg k8]
  cases hc:bR K.b K.len K.rs K.ns f x a dp with
  | none=>rw[hc]at h;cases h
  | some p=>
   rw[hc]at h
   simp only[Option.map_some,Option.some.injEq]at h
   subst h
   obtain⟨t1,s1,h1,h2⟩:=hS x a dp p jY.1 jY.2 ha hc g nP s hI
   rw[h1]
   simp only[Option.map_some]
   refine⟨_,_,rfl,?_⟩
   dsimp only
   have GM:=h2.sm
   cases GM with
   | sp inv cnt most=>exact .sp ⟨inv.far,inv.ent,inv.kn,inv.cnt,inv.hit⟩ cnt most
   | ok inv cnt most to far mt=>
    obtain⟨l1,e1,_⟩:=mt
    refine .ok ⟨inv.far,inv.ent,inv.kn,inv.cnt,inv.hit⟩ cnt most ?_ far ⟨[],?_,fun _=>by simp[kt]⟩
    ·have hd:decide (t1≠-1)=p.to.isSome:=by
      rw[to]
      cases hp:p.to with
      | none=>simp[mY]
      | some u=>simp[mY]
     rw[hd]
     split <;> rfl
    ·show s1.mt.take s.mt.length=s.mt++[]
     rw[e1];simp
end Go.Proofs.YtagklnaaoclmhaaGreatDoor
