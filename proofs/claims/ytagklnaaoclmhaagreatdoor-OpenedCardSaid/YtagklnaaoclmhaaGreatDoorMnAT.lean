import Derived.Test.YtagklnaaoclmhaaGreatDoorMnAS
set_option linter.unusedSimpArgs false
set_option linter.unusedVariables false
set_option maxRecDepth 100000
set_option maxHeartbeats 16000000
namespace Go.Proofs.YtagklnaaoclmhaaGreatDoor
open Go.RowKit
theorem OT:(Tryz.prog.info? 311).map (fun i=>(i.zero,i.size,i.bytes))=some (some (.agg #[.bool false,.int .i64 0]),2,16):=by kernel_rfl
theorem A5:∀n,(yX (List.replicate n none)).toList=(List.range (n*2)).map (fun j=>#[Value.bool false,Value.int .i64 0][j%2]!)
 | 0=>rfl
 | n+1=>by
  have h1:(yX (List.replicate (n+1) none)).toList=(yX (List.replicate n none)).toList++[.bool false,.int .i64 0]:=by
   unfold yX
   rw[List.replicate_succ']
   simp[TI]
  rw[h1,A5 n,show (n+1)*2=n*2+1+1 by omega,List.range_succ,List.range_succ]
  simp
theorem mkK (W:World)(n:Nat)(hn:n<=400000):(Instr.makeSlice 156 (.int .i64 (n:Int)) (.int .i64 (n:Int))).run Tryz.prog W=.ok (.slice (some ⟨W.heap.size,0,none⟩) n n) (W.alloc (.cells (yX (List.replicate n none)) 311)):=by
 obtain⟨i0,iC,gH,iD,iz⟩:=info_parts OT
 have hr:=run_make (P:=Tryz.prog) W 156 311 i0 _ Tryz.underlying156 iC gH .i64 .i64 n n (by omega) (Int.le_refl _) (by rw[iz];omega) (by omega)
 rw[hr]
 simp only[Int.toNat_natCast,iD]
 have:madeCells (Value.agg #[.bool false,.int .i64 0]).cells (n*2)=yX (List.replicate n none):=by
  apply Array.ext'
  rw[A5]
  have hz:(Value.agg #[.bool false,.int .i64 0]).cells=#[.bool false,.int .i64 0]:=rfl
  rw[hz]
  unfold madeCells
  simp
 rw[this]
structure PK (pol bud mask nr runs gb:Nat)(R:Nat->Rs->Prop)(w:World)(e:Ending)(w':World):Prop where
 res:∃gd mb eb ob,e=.returned (.pointer (some ⟨gd,0,none⟩))/\w'.heap[gd]?=some (.cells #[aw gb,.int .i64 (runs:Int),aw mb] 152 (0,0))/\iF w' (w.heap.size+1) mb eb ob [] (jI pol bud mask nr) R (oX bud)
 kept:aa (fun _=>False) w w'
theorem CW (pol bud mask nr runs gb:Nat)(rp:Option Addr)(rc:Nat)(R:Nat->Rs->Prop)(w:World)(hp:pol<=2)(hb:bud<=1000)(hm:mask<=255)(hn:nr<=8)(hg:w.cell? ⟨gb,0,none⟩=some (.slice rp nr rc)):
  Calls Tryz.prog 48 #[.pointer (some ⟨gb,0,none⟩),.agg #[.int .i64 (pol:Int),.int .i64 (bud:Int),.int .i64 (mask:Int),.int .i64 (runs:Int)]] w fun e w'=>PK pol bud mask nr runs gb R w e w':=by
 have lV:=av hg
 obtain⟨wa,mI⟩:∃wa,wa=w.alloc (.cells #[.int .i64 (pol:Int),.int .i64 (bud:Int),.int .i64 (mask:Int),.int .i64 (runs:Int)] 23):=⟨_,rfl⟩
 have oE:aa (fun _=>False) w wa:=by rw[mI];exact(aa.refl _ w).alloc _
 have gu:wa.heap[w.heap.size]?=some (.cells #[.int .i64 (pol:Int),.int .i64 (bud:Int),.int .i64 (mask:Int),.int .i64 (runs:Int)] 23 (0,0)):=by rw[mI];exact heap_alloc_new _ _
 have nP:wa.cell? ⟨gb,0,none⟩=some (.slice rp nr rc):=(oE.cell (p:=⟨gb,0,none⟩) lV (fun x=>x)).trans hg
 have a0:wa.cell? ⟨w.heap.size,0,none⟩=some (.int .i64 (pol:Int)):=by simp[World.cell?,gu]
 have a1:wa.cell? ⟨w.heap.size,1,none⟩=some (.int .i64 (bud:Int)):=by simp[World.cell?,gu]
 have a2:wa.cell? ⟨w.heap.size,2,none⟩=some (.int .i64 (mask:Int)):=by simp[World.cell?,gu]
 have a3:wa.cell? ⟨w.heap.size,3,none⟩=some (.int .i64 (runs:Int)):=by simp[World.cell?,gu]
 have yI:=O6 pol bud mask nr (runs:Int) R wa.drew hp hb hm hn
 have gh:Hid (wa.drew.heap.size=w.heap.size+1):=by unfold Hid;show wa.heap.size=_;rw[mI];simp
 have xk:∀W,aa (fun _=>False) wa.drew W->W.cell? ⟨gb,0,none⟩=some (.slice rp nr rc)/\W.cell? ⟨w.heap.size,0,none⟩=some (.int .i64 (pol:Int))/\W.cell? ⟨w.heap.size,1,none⟩=some (.int .i64 (bud:Int))/\W.cell? ⟨w.heap.size,2,none⟩=some (.int .i64 (mask:Int))/\W.cell? ⟨w.heap.size,3,none⟩=some (.int .i64 (runs:Int)):=fun W hW=>by
  have Ay:=(aa.refl (fun _=>False) wa).drew.trans hW
  exact⟨(Ay.cell (p:=⟨gb,0,none⟩) (av nP) (fun x=>x)).trans nP,(Ay.cell (p:=⟨w.heap.size,0,none⟩) (av a0) (fun x=>x)).trans a0,(Ay.cell (p:=⟨w.heap.size,1,none⟩) (av a1) (fun x=>x)).trans a1,(Ay.cell (p:=⟨w.heap.size,2,none⟩) (av a2) (fun x=>x)).trans a2,(Ay.cell (p:=⟨w.heap.size,3,none⟩) (av a3) (fun x=>x)).trans a3⟩
 unfold aw at *
 go_enter Tryz.func48,Tryz.ntmps48
 go_wp2_with fail
 rw[<-mI]
 clear mI
 go_region_held3 (fun w'=>w'.cell? ⟨gb,0,none⟩=some (.slice rp nr rc)/\w'.cell? ⟨w.heap.size,0,none⟩=some (.int .i64 (pol:Int))/\w'.cell? ⟨w.heap.size,1,none⟩=some (.int .i64 (bud:Int))/\w'.cell? ⟨w.heap.size,2,none⟩=some (.int .i64 (mask:Int))/\w'.cell? ⟨w.heap.size,3,none⟩=some (.int .i64 (runs:Int))) (go_keep) ((go_at_call 71;refine yI.mono ?_;rintro e w2 ⟨⟨mb,eb,ob,rfl,hM⟩,dl⟩;obtain⟨x0,x1,x2,x3,x4⟩:=xk w2 dl;unfold aw))
 go_wp2
 go_ret
 have hK:aa (fun _=>False) w w2:=oE.trans ((aa.refl (fun _=>False) wa).drew.trans dl)
 refine⟨⟨_,mb,eb,ob,rfl,?_,?_⟩,hK.alloc _⟩
 ·exact heap_alloc_new _ _
 ·rw[gh.out]at hM
  exact hM.kept ((aa.refl (fun _=>False) w2).alloc _) (fun j x=>x.elim)
theorem Mz {K:Wc}{step:Nat->Wt->Option (Int × Wt)}{rule a:Nat}{s:Wt}{t:Int}{s':Wt}(hm:s.mt=[])(h:lQ K step rule a s=some (t,s')):∃r,s'.mt=[r]/\r.to=t/\(s.mem.ent=[]->r.rule=rule/\r.from_=a):=by
 unfold lQ at h
 split at h
 ·next r M hf=>
  simp only[Option.some.injEq,Prod.mk.injEq]at h
  obtain⟨h1,h2⟩:=h
  subst h1;subst h2
  refine⟨r,by simp[hm],rfl,fun he=>?_⟩
  have:=(jd K.mc s.mem ⟨K.inp,rule,a⟩).2.1 r (by rw[hf])
  rw[he]at this
  exact absurd this.1 (by simp)
 ·next M hf=>
  split at h
  ·cases h
  ·next t1 s1 hc=>
   simp only[Option.some.injEq,Prod.mk.injEq]at h
   obtain⟨h1,h2⟩:=h
   subst h1;subst h2
   exact⟨jJ rule a s t1 s1,by simp[BW,hm],rfl,fun _=>⟨rfl,rfl⟩⟩
def eg (n:Nat)(M:Ms):Wt:=⟨0,0,[],(-1,0),List.replicate n none,M⟩
theorem qF.start {K:Wc}{Br:Nat->Prop}(n bud:Nat):qF K Br (eg n (oX bud)):=by
 refine⟨(by show (-1:Int)<=-1;decide),fun e he=>absurd he (by simp[eg,oX]),?_,Nat.le_refl _,by simp[eg,oX]⟩
 intro i a t _ _ _ h
 simp[eg,List.getD_eq_getElem?_getD,List.getElem?_replicate]at h
 split at h <;> simp at h
structure tM (K:Wc)(n bud:Nat)(o:Ot)(g:Nat)(t:Int)(s':Wt)(r:Rs):Prop where
 run:lQ K (fun j s=>wM K g j 0 s) 0 0 (eg n (oX bud))=some (t,s')
 one:s'.mt=[r]
 rto:r.to=t
 spent:K.most<o.rn+1->K.most<s'.cnt
 cnt:o.rn+1<=K.most->s'.cnt=o.rn+1
 to:o.rn+1<=K.most->t=mY o.to
 far:o.rn+1<=K.most->s'.far=cH o.ev
 tr:o.rn+1<=K.most->o.to.isSome=true->i8 0 r=(jx 0 0 0 o).tr.map nI
 dn:s'.dn<=s'.cnt
 hit:s'.mem.hits=0 ↔ s'.dn=s'.cnt
theorem MI {K:Wc}{Br:Nat->Prop}(hK:Kc K Br)(n bud:Nat)(hr:0<K.rs.length){f:Nat}{o:Ot}(h:bR K.b K.len K.rs K.ns f (cL K.rs 0) 0 1=some o):∃t s' r,tM K n bud o (f+1) t s' r:=by
 obtain⟨f0,rfl⟩:∃f0,f=f0+1:=⟨f-1,by have:=ll h;omega⟩
 obtain⟨t,s',h1,h2⟩:=BY hK (jA hK f0) (dp:=0) hr (Nat.zero_le _) h (f0+1+1) (by omega) (eg n (oX bud)) (qF.start n bud) (Nat.zero_le _)
 obtain⟨r,e1,e2,e3⟩:=Mz rfl h1
 have vA:(eg n (oX bud)).cnt=0:=rfl
 have gW:(jx 0 0 0 o).rn=o.rn+1:=rfl
 refine⟨t,s',r,?_⟩
 have nR:=h2.inv
 cases h2 with
 | sp inv cnt most=>
  rw[vA,gW]at most
  exact⟨h1,e1,e2,fun _=>cnt,fun x=>by omega,fun x=>by omega,fun x=>by omega,fun x=>by omega,nR.cnt,nR.hit⟩
 | ok inv cnt most to far mt=>
  rw[vA,gW]at cnt
  obtain⟨l,el,fl⟩:=mt
  have el':s'.mt=l:=el
  refine⟨h1,e1,e2,fun x=>by omega,fun _=>by omega,fun _=>to,fun _=>?_,fun _ hs=>?_,nR.cnt,nR.hit⟩
  ·rw[far]
   show dt (-1,0) (cH o.ev)=_
   have h3:=pu o.ev JD (by decide)
   exact h3.symm
  ·have h3:=fl hs
   rw[<-el',e1]at h3
   simpa [kt] using h3
def mZ:Value:=.agg #[.bool false,.int .i64 0,.slice none 0 0,.int .i64 0,.slice none 0 0]
structure V5 (I:Wi)(s':Wt)(r:Rs)(w:World)(e:Ending)(w':World):Prop where
 sp:I.K.most<s'.cnt->e=.returned (.tuple #[mZ,.int .i64 0,.bool false])
 ok:s'.cnt<=I.K.most->∃(B:Bool) (T:Int) (tp fp:Option Addr) (tn tc fn fc:Nat),e=.returned (.tuple #[.agg #[.bool B,.int .i64 T,.slice tp tn tc,.int .i64 s'.far.1,.slice fp fn fc],.int .i64 (s'.dn:Int),.bool true])/\qC w' w.heap.size r.to (i8 0 r) s'.far.2 B T (.slice tp tn tc) (.slice fp fn fc)
 mem:∃R eb ob EL,iF w' I.b0 I.mb eb ob EL I.K.mc R s'.mem
 gnd:w'.heap[I.gd]?=some (.cells #[aw I.gb,.int .i64 (I.K.most:Int),aw I.mb] 152 (0,0))
 kept:aa (fun k=>I.b0<=k) w w'
structure Y1 (I:Wi)(bud:Nat)(w:World):Prop where
 ic:Ic I
 ix:Ix I
 wk:I.wk=w.heap.size+2
 kb:I.kb=w.heap.size+1
 low:I.b0<=w.heap.size
 gnd:w.heap[I.gd]?=some (.cells #[aw I.gb,.int .i64 (I.K.most:Int),aw I.mb] 152 (0,0))
 gm:Gm w I.bg I.gb I.rv I.P I.ρ I.K.rs I.K.ns
 brk:w.cell? ⟨I.gb,1,none⟩=some (.int .i64 (I.L.length:Int))/\Bk w I.P I.L I.K.ns
 mem:∃eb ob,iF w I.b0 I.mb eb ob [] I.K.mc (fw w none) (oX bud)
theorem Y1.first {I:Wi}{bud:Nat}{w:World}(h:Y1 I bud w)(o:Obj):
  cQ I (.slice none 0 0) (eg (I.L.length*(I.inp.size+1)) (oX bud)) (((w.alloc o).alloc (.cells (yX (List.replicate (I.L.length*(I.inp.size+1)) none)) 311)).alloc (.cells #[aw I.gd,.int .i64 (I.K.inp:Int),.string I.inp,.int .i64 0,.int .i64 0,.slice none 0 0,.int .i64 (-1),.int .u64 0,.slice (some ⟨I.kb,0,none⟩) (I.L.length*(I.inp.size+1)) (I.L.length*(I.inp.size+1))] 159)):=by
 have hK:aa (fun _=>False) w (((w.alloc o).alloc (.cells (yX (List.replicate (I.L.length*(I.inp.size+1)) none)) 311)).alloc (.cells #[aw I.gd,.int .i64 (I.K.inp:Int),.string I.inp,.int .i64 0,.int .i64 0,.slice none 0 0,.int .i64 (-1),.int .u64 0,.slice (some ⟨I.kb,0,none⟩) (I.L.length*(I.inp.size+1)) (I.L.length*(I.inp.size+1))] 159)):=(((aa.refl _ w).alloc _).alloc _).alloc _
 have hF:Fr I.b0 (Value.slice none 0 0).ownBlock (Value.slice none 0 0).ownBlock w _:=Fr.new hK
 obtain⟨eb,ob,hM⟩:=h.mem
 refine⟨?_,?_,h.gm.fr hF,⟨?_,?_⟩,⟨eb,ob,[],?_⟩,⟨[],World.ownsRow_nil _ _ _ _,.nil⟩,?_,?_,?_,?_,?_⟩
 ·rw[h.wk]
  have:=heap_alloc_new ((w.alloc o).alloc (.cells (yX (List.replicate (I.L.length*(I.inp.size+1)) none)) 311)) (.cells #[aw I.gd,.int .i64 (I.K.inp:Int),.string I.inp,.int .i64 0,.int .i64 0,.slice none 0 0,.int .i64 (-1),.int .u64 0,.slice (some ⟨I.kb,0,none⟩) (I.L.length*(I.inp.size+1)) (I.L.length*(I.inp.size+1))] 159)
  simpa [eg] using this
 ·rw[hK.block I.gd (ag (show ai w I.gd=_ from h.gnd)) (fun x=>x)];exact h.gnd
 ·rw[hK.cell (p:=⟨I.gb,1,none⟩) (av h.brk.1) (fun x=>x)];exact h.brk.1
 ·exact h.brk.2.kept h.gm.ar hK (fun _ _ _ x=>x)
 ·exact(hM.kept hK (fun j x=>x.elim)).rel (fun b r hr=>hr.fr hF)
 ·rw[h.kb]
  show (((w.alloc o).alloc _).alloc _).heap[w.heap.size+1]?=_
  rw[Below.heap_alloc _ _ _ (by simp)]
  have:=heap_alloc_new (w.alloc o) (.cells (yX (List.replicate (I.L.length*(I.inp.size+1)) none)) 311)
  simpa [eg] using this
 ·refine⟨Nat.zero_le _,Nat.le_refl _,Nat.le_refl _,Nat.le_refl _,fun e he=>absurd he (by simp[eg,oX]),fun q t hq=>?_⟩
  simp[eg,List.getElem?_replicate]at hq
 ·rw[h.ic.len];simp[eg]
 ·exact⟨by show (-1:Int)<=-1;decide,by show (-1:Int)<=(I.K.len:Int);omega⟩
 ·show (0:Nat)<2^40;decide
theorem ME {I:Wi}{bud:Nat}{w:World}(h:Y1 I bud w)(hT:zS w){t:Int}{s':Wt}{r:Rs}{g:Nat}(hW:lQ I.K (fun j s=>wM I.K g j 0 s) 0 0 (eg (I.L.length*(I.inp.size+1)) (oX bud))=some (t,s'))(ST:s'.mt=[r])(ZJ:0<I.K.rs.length)(mz:s'.cnt<=I.K.most->¬r.to=-1->(i8 0 r).length<=100000)(hb00:0<I.b0):
  Calls Tryz.prog 49 #[aw I.gd,.int .i64 (I.K.inp:Int),.string I.inp] w fun e w'=>V5 I s' r w e w':=by
 have hI:=h.ic
 have d0:w.cell? ⟨I.gd,0,none⟩=some (aw I.gb):=by simp[World.cell?,h.gnd]
 have g1:=h.brk.1
 have lV:=av d0
 have mA:=av g1
 have Da:=hI.l60
 have Zv:I.L.length<=5000:=by have:=h.brk.2.len;have:=h.gm.ar.len;have:=hI.nsl;omega
 obtain⟨n,hn⟩:∃n,n=I.L.length*(I.inp.size+1):=⟨_,rfl⟩
 have oe:n<=305000:=by rw[hn];exact Nat.le_trans (Nat.mul_le_mul Zv (show I.inp.size+1<=61 by omega)) (by decide)
 have hxi:((I.L.length:Nat):Int)*((I.inp.size:Int)+1)=(n:Int):=by rw[hn];push_cast;rfl
 have ld:=fun W=>mkK W n (by omega)
 obtain⟨w3,gT⟩:∃w3,w3=(((w.alloc (.cells #[.bool false,.int .i64 0,.slice none 0 0,.int .i64 0,.slice none 0 0] 31)).alloc (.cells (yX (List.replicate n none)) 311)).alloc (.cells #[aw I.gd,.int .i64 (I.K.inp:Int),.string I.inp,.int .i64 0,.int .i64 0,.slice none 0 0,.int .i64 (-1),.int .u64 0,.slice (some ⟨w.heap.size+1,0,none⟩) n n] 159)):=⟨_,rfl⟩
 have hF:=h.first (.cells #[.bool false,.int .i64 0,.slice none 0 0,.int .i64 0,.slice none 0 0] 31)
 rw[h.kb,<-hn,<-gT]at hF
 rw[<-hn]at hW
 have eU:aa (fun _=>False) w w3:=by rw[gT];exact(((aa.refl _ w).alloc _).alloc _).alloc _
 have GI:=BA hI (BN hI h.ix g) 0 0 t _ s' (.slice none 0 0) w3 (Nat.zero_le _) ZJ hF (Nat.zero_le _) hW
 have iy:w3.heap[w.heap.size]?=some (.cells #[.bool false,.int .i64 0,.slice none 0 0,.int .i64 0,.slice none 0 0] 31 (0,0)):=by
  rw[gT,Below.heap_alloc _ _ _ (by simp;omega),Below.heap_alloc _ _ _ (by simp)]
  exact heap_alloc_new _ _
 have ew:=h.low
 have Yl:Hid (I.wk=w.heap.size+2):=h.wk
 have qbN:w3.heap.size=w.heap.size+3:=by rw[gT];simp
 unfold aw at *
 clear hn hF hW
 go_enter Tryz.func49,Tryz.ntmps49
 go_wp2_with fail
 rw[<-gT,show w.heap.size+1+1=I.wk by have:=Yl.out;omega]
 clear gT ld hxi
 refine GI.mono ?_
 rintro e w4 ⟨rfl,O5,h4,WE⟩
 have yO:=rN hI h4
 unfold aw at yO
 have SY:w4.heap[w.heap.size]?=some (.cells #[.bool false,.int .i64 0,.slice none 0 0,.int .i64 0,.slice none 0 0] 31 (0,0)):=by
  rw[WE.kept.block w.heap.size (ag (show ai w3 w.heap.size=_ from iy)) (fun hw=>by
   rcases hw.ty iy with h5 | ⟨h5,_⟩
   ·exact absurd h5 (by decide)
   ·exact absurd h5 (by decide))]
  exact iy
 have eK:aa (fun k=>I.b0<=k) w w4:=(eU.mono (fun _ _ x=>x.elim)).trans (WE.kept.mono (fun _ _ x=>x.1))
 clear GI
 go_wp2_with fail
 refine yO.mono ?_
 rintro e w5 ⟨rfl,m5,rfl⟩
 have h5:=h4.drewN hI m5
 obtain⟨w5,jX⟩:∃w5,w5=w4.drewN m5:=⟨_,rfl⟩
 rw[<-jX]at h5 ⊢
 have gR:aa (fun k=>I.b0<=k) w w5:=by rw[jX];exact eK.drewN m5
 have qap:aa (fun _=>False) w4 w5:=by rw[jX];exact(aa.refl _ w4).drewN m5
 have so:w5.heap[w.heap.size]?=some (.cells #[.bool false,.int .i64 0,.slice none 0 0,.int .i64 0,.slice none 0 0] 31 (0,0)):=by
  rw[qap.block w.heap.size (ag (show ai w4 w.heap.size=_ from SY)) (fun x=>x)];exact SY
 have J1:zS w5:=hT.kept gR (by omega)
 clear jX yO SY
 by_cases hs:I.K.most<s'.cnt
 ·rw[decide_eq_true hs]
  have fq:∀k,w5.frozen? ⟨w.heap.size,k,none⟩=false:=fun k=>by simp[World.frozen?,so]
  have B8:=fq 0
  have B9:=fq 1
  have Ca:=fq 2
  have Cb:=fq 3
  have Gj:=fq 4
  obtain⟨y0,y1,y2,y3,y4⟩:=bS so
  go_wp2
  obtain⟨w6,lZ⟩:∃w6,w6=gp w5 w.heap.size (.bool false) (.int .i64 0) (.slice none 0 0) (.int .i64 0) (.slice none 0 0):=⟨_,rfl⟩
  have jv:=lZ
  unfold gp at jv
  rw[<-jv]
  have h6:w6.heap[w.heap.size]?=some (.cells #[.bool false,.int .i64 0,.slice none 0 0,.int .i64 0,.slice none 0 0] 31 (0,0)):=by rw[lZ];exact fj so _ _ _ _ _
  have K6:aa (fun k=>k=w.heap.size) w5 w6:=by rw[lZ];exact dB _ _ _ _ _ _ _
  obtain⟨x0,x1,x2,x3,x4⟩:=bS h6
  clear lZ jv
  obtain⟨eb,ob,EL,hM⟩:=h5.mem
  refine bodyPost_ret (v:=.tuple #[mZ,.int .i64 0,.bool false]) (by simp[results,Tryz.results49,go_sem,x0,x1,x2,x3,x4,mZ]) rfl ⟨fun _=>rfl,fun x=>absurd x (by omega),⟨_,eb,ob,EL,hM.kept K6 (fun j e=>by
   have e':j=w.heap.size:=e
   subst e'
   exact⟨_,_,so,by decide,by decide,by decide,by decide,by decide⟩)⟩,?_,?_⟩
  ·rw[K6.block I.gd (ag (show ai w5 I.gd=_ from h5.gnd)) (fun e=>by
    have e':I.gd=w.heap.size:=e
    omega)]
   exact h5.gnd
  ·exact gR.then K6 (fun i hi e=>by have e':i=w.heap.size:=e;omega)
 ·rw[decide_eq_false hs]
  obtain⟨MB,m1,m2⟩:=h5.mt
  rw[ST]at m2
  obtain⟨rb,hMB,wn⟩:∃rb,MB=[rb]/\fw w5 O5.ownBlock rb r:=by
   cases m2 with
   | cons h1 h2=>cases h2 with | nil=>exact⟨_,rfl,h1⟩
  subst hMB
  obtain⟨gm,cm,tq,_,_⟩:=m1.form (by simp)
  have oI:w5.cell? ⟨gm,0,none⟩=some (.pointer (some ⟨rb,0,none⟩)):=by
   subst tq
   have:=m1.cellAt 0 (by simp)
   simpa [aw] using this
  have WV:=CA hI (h5.drewN hI 1) (J1.kept ((aa.refl (fun _=>False) w5).drewN 1) (fun x=>x)) rb r (wn.fr (b0:=I.b0) (Fr.new ((aa.refl _ w5).drewN 1))) (mz (by omega))
  obtain⟨_,_,_,_,z4,z5,_,_,_⟩:=h5.cells
  have XN:O5=.slice (some ⟨gm,0,none⟩) 1 cm:=tq
  rw[XN]at z5
  unfold aw at WV
  have xk:∀W,aa (fun _=>False) (w5.drewN 1) W->W.cell? ⟨I.wk,5,none⟩=some (.slice (some ⟨gm,0,none⟩) 1 cm)/\W.cell? ⟨I.wk,4,none⟩=some (.int .i64 (s'.dn:Int))/\W.cell? ⟨gm,0,none⟩=some (.pointer (some ⟨rb,0,none⟩))/\W.heap[w.heap.size]?=some (.cells #[.bool false,.int .i64 0,.slice none 0 0,.int .i64 0,.slice none 0 0] 31 (0,0)):=fun W hW=>by
   have Ay:=((aa.refl (fun _=>False) w5).drewN 1).trans hW
   exact⟨(Ay.cell (p:=⟨I.wk,5,none⟩) (av z5) (fun x=>x)).trans z5,(Ay.cell (p:=⟨I.wk,4,none⟩) (av z4) (fun x=>x)).trans z4,(Ay.cell (p:=⟨gm,0,none⟩) (av oI) (fun x=>x)).trans oI,(Ay.block w.heap.size (ag (show ai w5 w.heap.size=_ from so)) (fun x=>x)).trans so⟩
  have qaO:∀W:World,W.heap[w.heap.size]?=some (.cells #[.bool false,.int .i64 0,.slice none 0 0,.int .i64 0,.slice none 0 0] 31 (0,0))->W.frozen? ⟨w.heap.size,0,none⟩=false/\W.frozen? ⟨w.heap.size,1,none⟩=false/\W.frozen? ⟨w.heap.size,2,none⟩=false/\W.frozen? ⟨w.heap.size,3,none⟩=false/\W.frozen? ⟨w.heap.size,4,none⟩=false:=fun W hW=>by
   refine⟨?_,?_,?_,?_,?_⟩ <;> simp[World.frozen?,hW]
  have hwq:¬I.wk=w.heap.size:=by have:=Yl.out;omega
  have iI:¬gm=w.heap.size:=fun e=>by
   subst tq
   obtain⟨c2,hc⟩:=ak m1 (k:=gm) rfl
   have gB:w5.heap[gm]?=_:=hc
   rw[e,so]at gB;simp at gB
  have qdj:¬w.heap.size=I.wk:=fun e=>hwq e.symm
  have qcP:¬w.heap.size=gm:=fun e=>iI e.symm
  clear tq XN iy d0 g1 lV mA Da Zv oe mz
  go_wp2_with fail
  go_region_held3 (fun w'=>w'.cell? ⟨I.wk,5,none⟩=some (.slice (some ⟨gm,0,none⟩) 1 cm)/\w'.cell? ⟨I.wk,4,none⟩=some (.int .i64 (s'.dn:Int))/\w'.cell? ⟨gm,0,none⟩=some (.pointer (some ⟨rb,0,none⟩))) (go_keep) ((go_at_call 74;refine WV.mono ?_;rintro e w6 ⟨⟨B,T,tp,fp,tn,tc,fn,fc,rfl,hA⟩,um⟩;obtain⟨k5,k4,kg,X4⟩:=xk w6 um;obtain⟨y0,y1,y2,y3,y4⟩:=bS X4;obtain⟨B8,B9,Ca,Cb,Gj⟩:=qaO w6 X4))
  obtain⟨w7,ON⟩:∃w7,w7=gp w6 w.heap.size (.bool B) (.int .i64 T) (.slice tp tn tc) (.int .i64 s'.far.1) (.slice fp fn fc):=⟨_,rfl⟩
  have Ds:=ON
  unfold gp at Ds
  rw[<-Ds]
  have h7:w7.heap[w.heap.size]?=some (.cells #[.bool B,.int .i64 T,.slice tp tn tc,.int .i64 s'.far.1,.slice fp fn fc] 31 (0,0)):=by rw[ON];exact fj X4 _ _ _ _ _
  have K7:aa (fun k=>k=w.heap.size) w6 w7:=by rw[ON];exact dB _ _ _ _ _ _ _
  obtain⟨x0,x1,x2,x3,x4⟩:=bS h7
  have Us:aa (fun _=>False) w5 w6:=((aa.refl (fun _=>False) w5).drewN 1).trans um
  have K57:aa (fun k=>k=w.heap.size) w5 w7:=(Us.mono (fun _ _ x=>x.elim)).trans K7
  clear ON Ds y0 y1 y2 y3 y4 B8 B9 Ca Cb Gj k5 k4 kg
  go_wp2
  obtain⟨eb,ob,EL,hM⟩:=h5.mem
  have Ye:w.heap.size<=w5.heap.size:=gR.size
  refine bodyPost_ret (v:=.tuple #[.agg #[.bool B,.int .i64 T,.slice tp tn tc,.int .i64 s'.far.1,.slice fp fn fc],.int .i64 (s'.dn:Int),.bool true]) (by simp[results,Tryz.results49,go_sem,x0,x1,x2,x3,x4]) rfl ⟨fun x=>absurd x hs,fun _=>⟨_,_,_,_,_,_,_,_,rfl,⟨hA.b,hA.t,?_,?_⟩⟩,⟨_,eb,ob,EL,hM.kept K57 (fun j e=>by
   have e':j=w.heap.size:=e
   subst e'
   exact⟨_,_,so,by decide,by decide,by decide,by decide,by decide⟩)⟩,?_,?_⟩
  ·exact aC (eY hA.tr Ye) K7 (fun i hi e=>by
    have e':i=w.heap.size:=e
    have:=(hA.tr.lt i hi).1
    have h8:(w5.drewN 1).heap.size=w5.heap.size:=rfl
    have h9:=ag (show ai w5 w.heap.size=_ from so)
    omega)
  ·exact aC (eY hA.fl Ye) K7 (fun i hi e=>by
    have e':i=w.heap.size:=e
    have:=(hA.fl.lt i hi).1
    have h8:(w5.drewN 1).heap.size=w5.heap.size:=rfl
    have h9:=ag (show ai w5 w.heap.size=_ from so)
    omega)
  ·rw[K57.block I.gd (ag (show ai w5 I.gd=_ from h5.gnd)) (fun e=>by
    have e':I.gd=w.heap.size:=e
    have Ih:=ag (show ai w I.gd=_ from h.gnd)
    omega)]
   exact h5.gnd
  ·exact gR.then K57 (fun i hi e=>by have e':i=w.heap.size:=e;omega)
theorem uG (s:ByteArray)(w:World)(hs:s.size<=maxLen):Calls Tryz.prog 47 #[.string s] w fun e w'=>e=.returned (.bool (decide (60<s.size)))/\w'=w:=by
 unfold maxLen at hs
 by_cases h:60<s.size
 ·have hq:decide ((60:Int)<(s.size:Int))=true:=by simp;omega
  rw[decide_eq_true h]
  go_enter Tryz.func47,Tryz.ntmps47
  go_wp2
  go_ret
  exact⟨rfl,rfl⟩
 ·have hq:decide ((60:Int)<(s.size:Int))=false:=by simp;omega
  rw[decide_eq_false h]
  go_enter Tryz.func47,Tryz.ntmps47
  go_wp2
  go_ret
  exact⟨rfl,rfl⟩
theorem lz (n lo hi:Int)(w:World):Calls Tryz.prog 70 #[.int .i64 n,.int .i64 lo,.int .i64 hi] w fun e w'=>e=.returned (.bool (decide (lo<=n/\n<=hi)))/\w'=w:=by
 by_cases h1:lo<=n
 ·by_cases h2:n<=hi
  ·rw[decide_eq_true ⟨h1,h2⟩]
   go_enter Tryz.func70,Tryz.ntmps70
   go_wp2
   go_ret
   exact⟨rfl,rfl⟩
  ·rw[decide_eq_false (fun x=>h2 x.2)]
   go_enter Tryz.func70,Tryz.ntmps70
   go_wp2
   go_ret
   exact⟨rfl,rfl⟩
 ·rw[decide_eq_false (fun x=>h1 x.1)]
  go_enter Tryz.func70,Tryz.ntmps70
  go_wp2
  go_ret
  exact⟨rfl,rfl⟩
def tF (p b m r:Int):Prop:=(0<=p/\p<=2)/\(0<=b/\b<=1000)/\(0<=m/\m<=255)/\(1<=r/\r<=20000)
instance (p b m r:Int):Decidable (tF p b m r):=by unfold tF;infer_instance
theorem G6 (p b m r:Int)(w:World):Calls Tryz.prog 46 #[.agg #[.int .i64 p,.int .i64 b,.int .i64 m,.int .i64 r]] w fun e w'=>e=.returned (.bool (decide (tF p b m r)))/\aa (fun _=>False) w w':=by
 have dZ:=lz p 0 2
 have gQ:=lz b 0 1000
 have gT:=lz m 0 255
 have ib:=lz r 1 20000
 have HC:Hid (decide (tF p b m r)=(decide (0<=p/\p<=2)&&(decide (0<=b/\b<=1000)&&(decide (0<=m/\m<=255)&&decide (1<=r/\r<=20000))))):=by
  unfold Hid
  rw[Bool.eq_iff_iff]
  simp only[decide_eq_true_eq,Bool.and_eq_true]
  exact Iff.rfl
 generalize decide (tF p b m r)=C at *
 generalize decide (0<=p/\p<=2)=b1 at *
 generalize decide (0<=b/\b<=1000)=b2 at *
 generalize decide (0<=m/\m<=255)=b3 at *
 generalize decide (1<=r/\r<=20000)=b4 at *
 have hK:aa (fun _=>False) w (w.alloc (.cells #[.int .i64 p,.int .i64 b,.int .i64 m,.int .i64 r] 23)):=(aa.refl _ w).alloc _
 go_enter Tryz.func46,Tryz.ntmps46
 go_wp2_with fail
 refine(dZ _).mono ?_
 rintro e w1 ⟨rfl,rfl⟩
 cases b1
 ·go_wp2
  go_ret
  exact⟨by rw[HC.out];rfl,hK⟩
 ·go_wp2_with fail
  refine(gQ _).mono ?_
  rintro e w2 ⟨rfl,rfl⟩
  cases b2
  ·go_wp2
   go_ret
   exact⟨by rw[HC.out];rfl,hK⟩
  ·go_wp2_with fail
   refine(gT _).mono ?_
   rintro e w3 ⟨rfl,rfl⟩
   cases b3
   ·go_wp2
    go_ret
    exact⟨by rw[HC.out];rfl,hK⟩
   ·go_wp2_with fail
    refine(ib _).mono ?_
    rintro e w4 ⟨rfl,rfl⟩
    cases b4
    ·go_wp2
     go_ret
     exact⟨by rw[HC.out];rfl,hK⟩
    ·go_wp2
     go_ret
     exact⟨by rw[HC.out];rfl,hK⟩
theorem y9 (b0 gd mb eb ob:Nat)(EL:List (Ky × Nat))(C:Mc)(R:Nat->Rs->Prop)(M:Ms)(w:World)(a b:Value)(hg:w.heap[gd]?=some (.cells #[a,b,aw mb] 152 (0,0)))(h:iF w b0 mb eb ob EL C R M):
  Calls Tryz.prog 50 #[.pointer (some ⟨gd,0,none⟩)] w fun e w'=>e=.returned (.agg #[.int .i64 (M.ent.length:Int),.int .i64 (M.ent.length:Int),.int .i64 (M.hits:Int),.int .i64 0])/\aa (fun _=>False) w w':=by
 have d2:w.cell? ⟨gd,2,none⟩=some (aw mb):=by simp[World.cell?,hg]
 have lV:=av d2
 have jb:=Hv b0 mb eb ob EL C R M (w.alloc (.cells #[.int .i64 0,.int .i64 0,.int .i64 0,.int .i64 0] 73)) (h.kept ((aa.refl (fun _=>False) w).alloc _) (fun j x=>x.elim))
 unfold aw at *
 go_enter Tryz.func50,Tryz.ntmps50
 go_wp2_with fail
 refine jb.mono ?_
 rintro e w2 ⟨rfl,dl⟩
 have ki:w2.heap[w.heap.size]?=some (.cells #[.int .i64 0,.int .i64 0,.int .i64 0,.int .i64 0] 73 (0,0)):=by
  rw[dl.block w.heap.size (by simp) (fun x=>x)];exact heap_alloc_new _ _
 have fq:∀k,w2.frozen? ⟨w.heap.size,k,none⟩=false:=fun k=>by simp[World.frozen?,ki]
 have B8:=fq 0
 have B9:=fq 1
 have Ca:=fq 2
 have Cb:=fq 3
 have y0:w2.cell? ⟨w.heap.size,0,none⟩=some (.int .i64 0):=by simp[World.cell?,ki]
 have y1:w2.cell? ⟨w.heap.size,1,none⟩=some (.int .i64 0):=by simp[World.cell?,ki]
 have y2:w2.cell? ⟨w.heap.size,2,none⟩=some (.int .i64 0):=by simp[World.cell?,ki]
 have y3:w2.cell? ⟨w.heap.size,3,none⟩=some (.int .i64 0):=by simp[World.cell?,ki]
 clear jb
 go_wp2
 obtain⟨w3,gT⟩:∃w3,w3=(((w2.setCell ⟨w.heap.size,0,none⟩ (.int .i64 (M.ent.length:Int))).setCell ⟨w.heap.size,1,none⟩ (.int .i64 (M.ent.length:Int))).setCell ⟨w.heap.size,2,none⟩ (.int .i64 (M.hits:Int))).setCell ⟨w.heap.size,3,none⟩ (.int .i64 0):=⟨_,rfl⟩
 rw[<-gT]
 have K3:aa (fun k=>k=w.heap.size) w2 w3:=by
  rw[gT]
  exact((((aa.refl (fun k=>k=w.heap.size) w2).setCell (p:=⟨w.heap.size,0,none⟩) (fun _=>rfl) _).setCell (p:=⟨w.heap.size,1,none⟩) (fun _=>rfl) _).setCell (p:=⟨w.heap.size,2,none⟩) (fun _=>rfl) _).setCell (p:=⟨w.heap.size,3,none⟩) (fun _=>rfl) _
 have iy:w3.heap[w.heap.size]?=some (.cells #[.int .i64 (M.ent.length:Int),.int .i64 (M.ent.length:Int),.int .i64 (M.hits:Int),.int .i64 0] 73 (0,0)):=by
  rw[gT]
  have e1:=aj ki 0 (.int .i64 (M.ent.length:Int))
  have e2:=aj e1 1 (.int .i64 (M.ent.length:Int))
  have e3:=aj e2 2 (.int .i64 (M.hits:Int))
  have e4:=aj e3 3 (.int .i64 0)
  simpa using e4
 have x0:w3.cell? ⟨w.heap.size,0,none⟩=some (.int .i64 (M.ent.length:Int)):=by simp[World.cell?,iy]
 have x1:w3.cell? ⟨w.heap.size,1,none⟩=some (.int .i64 (M.ent.length:Int)):=by simp[World.cell?,iy]
 have x2:w3.cell? ⟨w.heap.size,2,none⟩=some (.int .i64 (M.hits:Int)):=by simp[World.cell?,iy]
 have x3:w3.cell? ⟨w.heap.size,3,none⟩=some (.int .i64 0):=by simp[World.cell?,iy]
 clear gT
 refine bodyPost_ret (v:=.agg #[.int .i64 (M.ent.length:Int),.int .i64 (M.ent.length:Int),.int .i64 (M.hits:Int),.int .i64 0]) (by simp[results,Tryz.results50,go_sem,x0,x1,x2,x3]) rfl ⟨rfl,?_⟩
 exact(((aa.refl (fun _=>False) w).alloc _).trans dl).then K3 (fun i hi e=>by have e':i=w.heap.size:=e;omega)
structure Cf where
 pol:Nat
 bud:Nat
 mask:Nat
 runs:Nat
structure Q7 (c:Cf):Prop where
 pol:c.pol<=2
 bud:c.bud<=1000
 mask:c.mask<=255
 runs:1<=c.runs/\c.runs<=20000
def OW (G s:ByteArray)(c:Cf)(br:Nat->Nat):Wc:=⟨am s,s.size,(aq G).2,(aq G).1.ns,br,c.runs,0,jI c.pol c.bud c.mask (aq G).2.length⟩
def CG (P L:List Nat)(i:Nat):Nat:=L.idxOf (P.getD i 0)
theorem I3 {P L:List Nat}{i:Nat}(h:P.getD i 0∈L):L[CG P L i]?=some (P.getD i 0):=by
 unfold CG
 rw[List.getElem?_eq_getElem (List.idxOf_lt_length_of_mem h),List.getElem_idxOf]
theorem DA {P:List Nat}(h:P.Nodup){i j:Nat}(hi:i<P.length)(hj:j<P.length)(e:P.getD i 0=P.getD j 0):i=j:=by
 rw[List.getD_eq_getElem?_getD,List.getD_eq_getElem?_getD,List.getElem?_eq_getElem hi,List.getElem?_eq_getElem hj]at e
 have e':P[i]=P[j]:=e
 have hp:=List.pairwise_iff_getElem.1 h
 rcases Nat.lt_trichotomy i j with h1 | h1 | h1
 ·exact absurd e' (hp i j hi hj h1)
 ·exact h1
 ·exact absurd e'.symm (hp j i hj hi h1)
theorem uR:∀(n:Nat) (l:List Nat),l.Nodup->(∀x∈l,x<n)->l.length<=n
 | 0,l,_,h=>by
  cases l with
  | nil=>simp
  | cons x l=>exact absurd (h x (List.mem_cons_self ..)) (by omega)
 | n+1,l,hn,h=>by
  have h1:=uR n (l.erase n) (hn.erase n) (fun x hx=>by
   have h2:=(List.Nodup.mem_erase_iff hn).1 hx
   have h3:=h x h2.2
   have:=h2.1
   omega)
  have h4:l.length<=(l.erase n).length+1:=by
   rw[List.length_erase]
   split <;> omega
  omega
theorem QI {G s:ByteArray}{c:Cf}(hG:dj G=(0,0)){w:World}{bg gb:Nat}{rv:Value}{P L:List Nat}{ρ:Nat->Int}(oI:Gm w bg gb rv P ρ (aq G).2 (aq G).1.ns)(hB:Bk w P L (aq G).1.ns):Kc (OW G s c (CG P L)) (fun i=>P.getD i 0∈L):=by
 obtain⟨sF,gS,S,hE⟩:=jl hG
 have hq:=uU sF gS
 refine⟨hE.wf,fun i hi hk=>gJ hE.nm hi hk,fun r hr=>?_,fun i hi j hj h4=>?_,fun i j hi hj h1 h2 e=>?_,fun f i a dp o t hi ha h ho=>?_⟩
 ·have tt:r<(aq G).2.length:=hr
  have h1:=(hq.ch _ (List.getElem_mem tt)).1
  have h2:cL (aq G).2 r=(aq G).2[r].is:=by unfold cL;simp[List.getD_eq_getElem?_getD,tt]
  show (ap (aq G).1.ns (cL (aq G).2 r)).kind=4
  rw[h2];exact h1
 ·refine hB.sub i hi j ?_ h4
  rw[bA hi]at hj;exact hj
 ·have e1:=I3 h1
  have e2:=I3 h2
  have e':CG P L i=CG P L j:=e
  rw[e',e2]at e1
  have hl:=oI.ar.len
  have eM:i<(aq G).1.ns.length:=hi
  have AG:j<(aq G).1.ns.length:=hj
  exact DA oI.ar.nd (by omega) (by omega) (Option.some.inj e1).symm
 ·exact⟨(mN hE.wf hE.nm hE.ls f i a dp o t hi ha h ho).1,(mN hE.wf hE.nm hE.ls f i a dp o t hi ha h ho).2.1⟩
theorem kE {G:ByteArray}(hG:dj G=(0,0)):0<(aq G).2.length:=by
 obtain⟨sF,gS,S,hE⟩:=jl hG
 have eW:(aq G).2≠[]:=by
  intro he
  have h1:∀f X rs,rs≠[]->(cX G f X rs).2≠[]:=by
   intro f
   induction f with
   | zero=>intro X rs h;exact h
   | succ f ih=>
    intro X rs h
    rw[cX]
    split
    ·split
     ·exact h
     ·exact ih _ _ (by simp)
    ·exact h
  unfold aq at he
  rw[cX,if_pos ⟨by decide,.inr rfl⟩,if_neg (by decide)]at he
  exact h1 _ _ _ (by simp) he
 exact List.length_pos_iff.2 eW
theorem iF.bound {w:World}{b0 mb eb ob:Nat}{EL:List (Ky × Nat)}{C:Mc}{R:Nat->Rs->Prop}{M:Ms}(h:iF w b0 mb eb ob EL C R M):M.ent.length<=C.bud:=by
 have hl:EL.length=M.ent.length:=by have:=congrArg List.length h.keys;simpa using this
 rcases h.ok.pol with⟨h0,_⟩ | ⟨h1 | h2,hb⟩
 ·have:=h.no0 h0
  rw[this]at hl
  simp at hl;omega
 ·have hd:=h.dir h1
  have ts:(EL.map (fun e=>kN C.nr e.1%C.bud)).Nodup:=by
   have hn:=h.nd
   have Kz:EL.map (fun e=>kN C.nr e.1%C.bud)=(EL.map (·.1)).map (fun k=>kN C.nr k%C.bud):=by rw[List.map_map];rfl
   rw[Kz]
   refine List.pairwise_map.2 (List.Pairwise.imp_of_mem ?_ hn)
   intro a b ha jq gu e
   obtain⟨ea,hea,rfl⟩:=List.mem_map.1 ha
   obtain⟨Wl,tg,rfl⟩:=List.mem_map.1 jq
   have q1:=hd.at_ ea hea
   have q2:=hd.at_ Wl tg
   rw[e,q2]at q1
   exact gu (Option.some.inj q1).symm
  have:=uR C.bud _ ts (fun x hx=>by
   obtain⟨e,_,rfl⟩:=List.mem_map.1 hx
   exact Nat.mod_lt _ hb)
  rw[List.length_map]at this
  omega
 ·obtain⟨fr,Kl,_⟩:=(h.old h2).free
  omega
def qb5 (G s:ByteArray)(c:Cf)(gd gb mb b0 bg H:Nat)(rv:Value)(P L:List Nat)(ρ:Nat->Int):Wi:=
 { wk:=H+2,gd:=gd,gb:=gb,mb:=mb,kb:=H+1,b0:=b0,inp:=s,bg:=bg,rv:=rv,P:=P,ρ:=ρ,L:=L,K:=OW G s c (CG P L) }
theorem RO {G s:ByteArray}{c:Cf}(hG:dj G=(0,0))(hc:Q7 c)(hs:s.size<=60){w:World}{gd gb mb eb ob b0 bg:Nat}{rv:Value}{P L:List Nat}{ρ:Nat->Int}
  (oI:Gm w bg gb rv P ρ (aq G).2 (aq G).1.ns) (hρ:∀i,i<(aq G).1.ns.length->(ap (aq G).1.ns i).kind=3->ρ i=(dI (aq G).2 (ap (aq G).1.ns i):Int))
  (hL:w.cell? ⟨gb,1,none⟩=some (.int .i64 (L.length:Int))) (hB:Bk w P L (aq G).1.ns)
  (fK:w.heap[gd]?=some (.cells #[aw gb,.int .i64 (c.runs:Int),aw mb] 152 (0,0))) (hM:iF w b0 mb eb ob [] (jI c.pol c.bud c.mask (aq G).2.length) (fun _ _=>False) (oX c.bud)):
  Y1 (qb5 G s c gd gb mb b0 bg w.heap.size rv P L ρ) c.bud w:=by
 obtain⟨sF,gS,S,hE⟩:=jl hG
 have hq:=uU sF gS
 have Ov:=pW sF
 have gC:=QI (s:=s) (c:=c) hG oI hB
 have eP:∀i,i<(aq G).1.ns.length->F1 G (ap (aq G).1.ns i):=fun i hi=>hq.nd _ (by rw[bA hi];exact List.getElem_mem hi)
 have sh:b0<=w.heap.size:=by have:=hM.low.1;have:=ag (show ai w mb=_ from hM.blk);omega
 refine⟨⟨rfl,hs,rfl,hc.runs.2,Nat.zero_le _,hE.wf,fun i hi hk=>⟨hρ i hi hk,gC.ru i hi hk⟩,gC.ch,fun i hi=>(eP i hi).term,fun i hi h=>I3 h,?_,?_⟩,⟨fun i hi=>?_,fun i hi=>?_⟩,rfl,rfl,sh,fK,oI,⟨hL,hB⟩,⟨eb,ob,hM.rel (fun _ _ x=>x.elim)⟩⟩
 ·show (aq G).1.ns.length<=5000;omega
 ·show b0<=w.heap.size+2/\b0<=w.heap.size+1;omega
 ·have:=(eP i hi).tx;show (ap (aq G).1.ns i).text.length<=1000;omega
 ·have:=(eP i hi).rl;show (ap (aq G).1.ns i).rng.length<=5000;omega
structure s7 (w:World)(pb:Nat)(G:ByteArray)(c:Cf)(base:Nat)(a b d e:Nat):Prop where
 chk:dj G=(0,0)
 cf:Q7 c
 low:base<=pb
 ex:∃gb bg rv P ρ,w.heap[pb]?=some (.cells #[aw gb,.int .i64 (c.pol:Int),.int .i64 (c.bud:Int),.int .i64 (c.mask:Int),.int .i64 (c.runs:Int),.int .i64 (a:Int),.int .i64 (b:Int),.int .i64 (d:Int),.int .i64 (e:Int)] 105 (0,0))/\Gm w bg gb rv P ρ (aq G).2 (aq G).1.ns/\
  ∀i,i<(aq G).1.ns.length->(ap (aq G).1.ns i).kind=3->ρ i=(dI (aq G).2 (ap (aq G).1.ns i):Int)
theorem s7.kept {w w':World}{pb base a b d e:Nat}{G:ByteArray}{c:Cf}{S:Nat->Prop}(h:s7 w pb G c base a b d e)(hk:aa S w w')(hS:∀j cs t,S j->w.heap[j]?=some (.cells cs t (0,0))->t≠150/\t≠189/\t≠203/\t≠187/\t≠321)(hp:¬S pb):s7 w' pb G c base a b d e:=by
 obtain⟨gb,bg,rv,P,ρ,h1,h2,h3⟩:=h.ex
 refine⟨h.chk,h.cf,h.low,gb,bg,rv,P,ρ,?_,h2.kept hk hS,h3⟩
 rw[hk.block pb (ag (show ai w pb=_ from h1)) hp];exact h1
theorem s7.same {w w':World}{pb base a b d e:Nat}{G:ByteArray}{c:Cf}(h:s7 w pb G c base a b d e)(hk:aa (fun _=>False) w w'):s7 w' pb G c base a b d e:=
 h.kept hk (fun _ _ _ x=>x.elim) (fun x=>x)
structure VX (G:ByteArray)(c:Cf)(pb base:Nat)(w:World)(e:Ending)(w':World):Prop where
 res:e=.returned (.tuple #[mZ,.int .i64 1])
 ps:s7 w' pb G c base 0 0 0 0
 kept:aa (fun k=>k=pb) w w'
theorem qT {w:World}{q t:Nat}{a b c d e f g h i:Value}(hq:w.heap[q]?=some (.cells #[a,b,c,d,e,f,g,h,i] t (0,0))):(w.cell? ⟨q,0,none⟩=some a/\w.cell? ⟨q,1,none⟩=some b/\w.cell? ⟨q,2,none⟩=some c/\w.cell? ⟨q,3,none⟩=some d/\w.cell? ⟨q,4,none⟩=some e/\w.cell? ⟨q,5,none⟩=some f/\w.cell? ⟨q,6,none⟩=some g/\w.cell? ⟨q,7,none⟩=some h/\w.cell? ⟨q,8,none⟩=some i)/\∀k,w.frozen? ⟨q,k,none⟩=false:=by
 refine⟨⟨?_,?_,?_,?_,?_,?_,?_,?_,?_⟩,fun k=>?_⟩
 all_goals first | simp[World.cell?,hq] | simp[World.frozen?,hq]
def rK (w:World)(q:Nat)(a b c d:Value):World:=(((w.setCell ⟨q,5,none⟩ a).setCell ⟨q,6,none⟩ b).setCell ⟨q,7,none⟩ c).setCell ⟨q,8,none⟩ d
theorem rL (w:World)(q:Nat)(a b c d:Value):aa (fun k=>k=q) w (rK w q a b c d):=
 (((((aa.refl (fun k=>k=q) w).setCell (p:=⟨q,5,none⟩) (fun _=>rfl) _).setCell (p:=⟨q,6,none⟩) (fun _=>rfl) _).setCell (p:=⟨q,7,none⟩) (fun _=>rfl) _).setCell (p:=⟨q,8,none⟩) (fun _=>rfl) _)
theorem zq {w:World}{q t:Nat}{x0 x1 x2 x3 x4 a' b' c' d':Value}(h:w.heap[q]?=some (.cells #[x0,x1,x2,x3,x4,a',b',c',d'] t (0,0)))(a b c d:Value):(rK w q a b c d).heap[q]?=some (.cells #[x0,x1,x2,x3,x4,a,b,c,d] t (0,0)):=by
 have e1:=aj h 5 a
 have e2:=aj e1 6 b
 have e3:=aj e2 7 c
 have e4:=aj e3 8 d
 unfold rK
 simpa using e4
theorem s7.set {w w':World}{pb base a b d e a' b' d' e':Nat}{G:ByteArray}{c:Cf}(h:s7 w pb G c base a b d e)(hk:aa (fun k=>k=pb) w w')(hb:∀x0,w.heap[pb]?=some (.cells #[x0,.int .i64 (c.pol:Int),.int .i64 (c.bud:Int),.int .i64 (c.mask:Int),.int .i64 (c.runs:Int),.int .i64 (a:Int),.int .i64 (b:Int),.int .i64 (d:Int),.int .i64 (e:Int)] 105 (0,0))->w'.heap[pb]?=some (.cells #[x0,.int .i64 (c.pol:Int),.int .i64 (c.bud:Int),.int .i64 (c.mask:Int),.int .i64 (c.runs:Int),.int .i64 (a':Int),.int .i64 (b':Int),.int .i64 (d':Int),.int .i64 (e':Int)] 105 (0,0))):s7 w' pb G c base a' b' d' e':=by
 obtain⟨gb,bg,rv,P,ρ,h1,h2,h3⟩:=h.ex
 exact⟨h.chk,h.cf,h.low,gb,bg,rv,P,ρ,hb _ h1,h2.kept hk (fun j cs t e hj=>by
  have e':j=pb:=e
  subst e'
  have rq:w.heap[j]?=_:=hj
  rw[h1]at rq;simp at rq
  rw[<-rq.2];decide),h3⟩
theorem Ue {w:World}{pb:Nat}{gb:Nat}{x1 x2 x3 x4 x5 x6 x7 x8:Value}(hT:zS w)(hb:w.heap[pb]?=some (.cells #[aw gb,x1,x2,x3,x4,x5,x6,x7,x8] 105 (0,0))):¬0=pb:=fun e=>by
 have h1:=hT 0 (by decide)
 have h2:=(qT hb).1.1
 rw[<-e,h1]at h2
 simp[aw]at h2
theorem DE {G s:ByteArray}{c:Cf}{pb base a b d e:Nat}{w:World}(h:s7 w pb G c base a b d e)(hT:zS w)(hs:60<s.size)(hm:s.size<=maxLen):
  Calls Tryz.prog 19 #[.pointer (some ⟨pb,0,none⟩),.string s] w fun e w'=>VX G c pb base w e w':=by
 obtain⟨gb,bg,rv,P,ρ,hb,oI,hρ⟩:=h.ex
 have sn:=ag (show ai w pb=_ from hb)
 have AM:∀W,Calls Tryz.prog 47 #[.string s] W fun e w'=>e=.returned (.bool true)/\w'=W:=fun W=>by
  have:=uG s W hm
  rw[decide_eq_true hs]at this;exact this
 obtain⟨⟨c0,c1,c2,c3,c4,c5,c6,c7,c8⟩,hf⟩:=qT hb
 have f5:=hf 5
 have f6:=hf 6
 have f7:=hf 7
 have f8:=hf 8
 obtain⟨w1,dZ⟩:∃w1,w1=(rK w pb (.int .i64 0) (.int .i64 0) (.int .i64 0) (.int .i64 0)).alloc (.cells #[.bool false,.int .i64 0,.slice none 0 0,.int .i64 0,.slice none 0 0] 31):=⟨_,rfl⟩
 have EH:=rL w pb (.int .i64 0) (.int .i64 0) (.int .i64 0) (.int .i64 0)
 have dd:aa (fun k=>k=pb) w w1:=by rw[dZ];exact EH.alloc _
 have AZ:(rK w pb (.int .i64 0) (.int .i64 0) (.int .i64 0) (.int .i64 0)).heap.size=w.heap.size:=by unfold rK;simp
 have mF:w1.heap[w.heap.size]?=some (.cells #[.bool false,.int .i64 0,.slice none 0 0,.int .i64 0,.slice none 0 0] 31 (0,0)):=by
  rw[dZ,<-AZ];exact heap_alloc_new _ _
 have EJ:s7 w1 pb G c base 0 0 0 0:=h.set dd (fun x0 hx=>by
  rw[dZ,Below.heap_alloc _ _ _ (by rw[AZ];exact sn)]
  exact zq hx _ _ _ _)
 have Dq:=dZ
 unfold rK at Dq
 clear dZ hT oI hρ h
 go_enter Tryz.func19,Tryz.ntmps19
 go_wp2_with fail
 rw[<-Dq]
 refine(AM _).mono ?_
 rintro e w2 ⟨rfl,rfl⟩
 clear Dq AM f5 f6 f7 f8 hf c0 c1 c2 c3 c4 c5 c6 c7 c8 EH AZ
 have fq:∀k,w2.frozen? ⟨w.heap.size,k,none⟩=false:=fun k=>by simp[World.frozen?,mF]
 have B8:=fq 0
 have B9:=fq 1
 have Ca:=fq 2
 have Cb:=fq 3
 have Gj:=fq 4
 obtain⟨y0,y1,y2,y3,y4⟩:=bS mF
 go_wp2
 obtain⟨w6,lZ⟩:∃w6,w6=gp w2 w.heap.size (.bool false) (.int .i64 0) (.slice none 0 0) (.int .i64 0) (.slice none 0 0):=⟨_,rfl⟩
 have jv:=lZ
 unfold gp at jv
 rw[<-jv]
 have h6:w6.heap[w.heap.size]?=some (.cells #[.bool false,.int .i64 0,.slice none 0 0,.int .i64 0,.slice none 0 0] 31 (0,0)):=by rw[lZ];exact fj mF _ _ _ _ _
 have K6:aa (fun k=>k=w.heap.size) w2 w6:=by rw[lZ];exact dB _ _ _ _ _ _ _
 obtain⟨x0,x1,x2,x3,x4⟩:=bS h6
 clear lZ jv
 refine bodyPost_ret (v:=.tuple #[mZ,.int .i64 1]) (by simp[results,Tryz.results19,go_sem,x0,x1,x2,x3,x4,mZ]) rfl ⟨rfl,EJ.kept K6 (fun j cs t e hj=>by
   have e':j=w.heap.size:=e
   subst e'
   rw[mF]at hj;simp at hj
   rw[<-hj.2];decide) (fun e=>by have e':pb=w.heap.size:=e;omega),?_⟩
 exact dd.then K6 (fun i hi e=>by have e':i=w.heap.size:=e;omega)
structure V6 (c:Cf)(gd gb mb b0:Nat)(s':Wt)(r:Rs)(w:World)(e:Ending)(w':World):Prop where
 sp:c.runs<s'.cnt->e=.returned (.tuple #[mZ,.int .i64 0,.bool false])
 ok:s'.cnt<=c.runs->∃(B:Bool) (T:Int) (tp fp:Option Addr) (tn tc fn fc:Nat),e=.returned (.tuple #[.agg #[.bool B,.int .i64 T,.slice tp tn tc,.int .i64 s'.far.1,.slice fp fn fc],.int .i64 (s'.dn:Int),.bool true])/\qC w' w.heap.size r.to (i8 0 r) s'.far.2 B T (.slice tp tn tc) (.slice fp fn fc)
 mem:∃C R eb ob EL,iF w' b0 mb eb ob EL C R s'.mem/\C.bud=c.bud
 gnd:w'.heap[gd]?=some (.cells #[aw gb,.int .i64 (c.runs:Int),aw mb] 152 (0,0))
 kept:aa (fun k=>b0<=k) w w'
theorem Lm (a b c d:Nat):(jI a b c d).bud=b:=by unfold jI;split <;> rfl
theorem Hm {G:ByteArray}(h:(dj G).1=0):dj G=(0,0):=by
 have hC:dj G=if 400<G.size then (1,0) else if 0<=(aq G).1.sc.bad then (2,(aq G).1.sc.bad) else if 0<=uN (aq G).2 (aq G).1.ns then (3,uN (aq G).2 (aq G).1.ns)
  else if 0<=dc (aq G).2 (aq G).1.ns then (4,dc (aq G).2 (aq G).1.ns) else (0,0):=rfl
 rw[hC]at h ⊢
 by_cases h1:400<G.size
 ·rw[if_pos h1]at h;exact absurd (show (1:Int)=0 from h) (by decide)
 ·rw[if_neg h1]at h ⊢
  by_cases h2:0<=(aq G).1.sc.bad
  ·rw[if_pos h2]at h;exact absurd (show (2:Int)=0 from h) (by decide)
  ·rw[if_neg h2]at h ⊢
   by_cases h3:0<=uN (aq G).2 (aq G).1.ns
   ·rw[if_pos h3]at h;exact absurd (show (3:Int)=0 from h) (by decide)
   ·rw[if_neg h3]at h ⊢
    by_cases h4:0<=dc (aq G).2 (aq G).1.ns
    ·rw[if_pos h4]at h;exact absurd (show (4:Int)=0 from h) (by decide)
    ·rw[if_neg h4]
structure VW (C:Int)(G:ByteArray)(p b m r:Int)(w:World)(e:Ending)(w':World):Prop where
 kept:aa (fun _=>False) w w'
 bad:C≠0->e=.returned (.tuple #[.pointer none,.int .i64 C])
 cfg:C=0->¬tF p b m r->e=.returned (.tuple #[.pointer none,.int .i64 5])
 ok:C=0->tF p b m r->∃pb,e=.returned (.tuple #[.pointer (some ⟨pb,0,none⟩),.int .i64 0])/\s7 w' pb G ⟨p.toNat,b.toNat,m.toNat,r.toNat⟩ w.heap.size 0 0 0 0
theorem Lx (G:ByteArray)(hm:G.size<=maxLen)(p b m r:Int)(w:World):
  Calls Tryz.prog 18 #[.string G,.agg #[.int .i64 p,.int .i64 b,.int .i64 m,.int .i64 r]] w fun e w'=>VW (dj G).1 G p b m r w e w':=by
 obtain⟨w1,dZ⟩:∃w1,w1=w.alloc (.cells #[.int .i64 p,.int .i64 b,.int .i64 m,.int .i64 r] 23):=⟨_,rfl⟩
 have dd:aa (fun _=>False) w w1:=by rw[dZ];exact(aa.refl _ w).alloc _
 have mF:w1.heap[w.heap.size]?=some (.cells #[.int .i64 p,.int .i64 b,.int .i64 m,.int .i64 r] 23 (0,0)):=by rw[dZ];exact heap_alloc_new _ _
 have Yd:w1.heap.size=w.heap.size+1:=by rw[dZ];simp
 have hrd:=Hl G w1 hm
 have AQ:=G6 p b m r
 have Hok:Hid ((dj G).1=0->dj G=(0,0)):=Hm
 obtain⟨C,hC⟩:∃C,C=dj G:=⟨_,rfl⟩
 have HC:=ae hC
 rw[<-hC]at hrd
 rw[<-hC]
 clear hC
 obtain⟨ca,cb⟩:=C
 go_enter Tryz.func18,Tryz.ntmps18
 go_wp2_with fail
 rw[<-dZ]
 clear dZ
 refine hrd.mono ?_
 intro e w2 hO
 have dl:=hO.kept
 have vS:aa (fun _=>False) w w2:=dd.trans dl
 have ki:w2.heap[w.heap.size]?=some (.cells #[.int .i64 p,.int .i64 b,.int .i64 m,.int .i64 r] 23 (0,0)):=by
  rw[dl.block w.heap.size (by omega) (fun x=>x)];exact mF
 clear hrd
 by_cases ha:ca=0
 ·subst ha
  obtain⟨gb,rfl,bg,rv,P,ρ,ew,oI,hρ⟩:=hO.ok rfl
  have HG:=ae oI
  have Hρ:=ae hρ
  have a0:w2.cell? ⟨w.heap.size,0,none⟩=some (.int .i64 p):=by simp[World.cell?,ki]
  have a1:w2.cell? ⟨w.heap.size,1,none⟩=some (.int .i64 b):=by simp[World.cell?,ki]
  have a2:w2.cell? ⟨w.heap.size,2,none⟩=some (.int .i64 m):=by simp[World.cell?,ki]
  have a3:w2.cell? ⟨w.heap.size,3,none⟩=some (.int .i64 r):=by simp[World.cell?,ki]
  clear hO oI hρ
  dsimp only
  go_wp2_with fail
  refine(AQ w2).mono ?_
  rintro e w3 ⟨rfl,eU⟩
  have iy:w3.heap[w.heap.size]?=some (.cells #[.int .i64 p,.int .i64 b,.int .i64 m,.int .i64 r] 23 (0,0)):=by
   rw[eU.block w.heap.size (ag (show ai w2 w.heap.size=_ from ki)) (fun x=>x)];exact ki
  have d0:w3.cell? ⟨w.heap.size,0,none⟩=some (.int .i64 p):=by simp[World.cell?,iy]
  have d1:w3.cell? ⟨w.heap.size,1,none⟩=some (.int .i64 b):=by simp[World.cell?,iy]
  have d2:w3.cell? ⟨w.heap.size,2,none⟩=some (.int .i64 m):=by simp[World.cell?,iy]
  have d3:w3.cell? ⟨w.heap.size,3,none⟩=some (.int .i64 r):=by simp[World.cell?,iy]
  have RY:aa (fun _=>False) w w3:=vS.trans eU
  clear AQ a0 a1 a2 a3
  by_cases hc:tF p b m r
  ·rw[decide_eq_true hc]
   have Hc:=ae hc
   clear hc
   go_wp2
   go_ret2
   refine⟨RY.alloc _,fun x=>absurd rfl x,fun _ x=>absurd Hc.out x,fun _ _=>⟨_,rfl,Hok.out (by rw[<-HC.out]),?_,?_,gb,bg,rv,P,ρ,?_,?_,Hρ.out⟩⟩
   ·obtain⟨⟨k1,k2⟩,⟨k3,k4⟩,⟨k5,k6⟩,⟨k7,k8⟩⟩:=Hc.out
    exact⟨show p.toNat<=2 by omega,show b.toNat<=1000 by omega,show m.toNat<=255 by omega,show 1<=r.toNat by omega,show r.toNat<=20000 by omega⟩
   ·exact RY.size
   ·obtain⟨⟨k1,k2⟩,⟨k3,k4⟩,⟨k5,k6⟩,⟨k7,k8⟩⟩:=Hc.out
    have e1:((p.toNat:Nat):Int)=p:=by omega
    have e2:((b.toNat:Nat):Int)=b:=by omega
    have e3:((m.toNat:Nat):Int)=m:=by omega
    have e4:((r.toNat:Nat):Int)=r:=by omega
    show _=some (Obj.cells #[aw gb,.int .i64 (p.toNat:Int),.int .i64 (b.toNat:Int),.int .i64 (m.toNat:Int),.int .i64 (r.toNat:Int),.int .i64 0,.int .i64 0,.int .i64 0,.int .i64 0] 105 (0,0))
    rw[e1,e2,e3,e4]
    exact heap_alloc_new _ _
   ·exact(HG.out.kept eU (fun _ _ _ x=>x.elim)).kept ((aa.refl (fun _=>False) w3).alloc _) (fun _ _ _ x=>x.elim)
  ·rw[decide_eq_false hc]
   have Hc:=ae hc
   clear hc
   go_wp2
   go_ret2
   exact⟨RY,fun x=>absurd rfl x,fun _ _=>rfl,fun _ x=>absurd x Hc.out⟩
 ·have he:=hO.bad ha
  subst he
  have Hca:=ae ha
  have hbq:(ca == 0)=false:=by simpa using ha
  clear hO
  dsimp only
  go_wp2
  go_ret2
  exact⟨vS,fun _=>rfl,fun x=>absurd x Hca.out,fun x=>absurd x Hca.out⟩
theorem BM {w:World}{pb base a b d e:Nat}{G:ByteArray}{c:Cf}(h:s7 w pb G c base a b d e):
  Calls Tryz.prog 27 #[.pointer (some ⟨pb,0,none⟩)] w fun e' w'=>e'=.returned (.agg #[.int .i64 (a:Int),.int .i64 (b:Int),.int .i64 (d:Int),.int .i64 (e:Int)])/\aa (fun _=>False) w w':=by
 obtain⟨gb,bg,rv,P,ρ,hb,_,_⟩:=h.ex
 have sn:=ag (show ai w pb=_ from hb)
 obtain⟨w1,dZ⟩:∃w1,w1=w.alloc (.cells #[.int .i64 0,.int .i64 0,.int .i64 0,.int .i64 0] 73):=⟨_,rfl⟩
 have dd:aa (fun _=>False) w w1:=by rw[dZ];exact(aa.refl _ w).alloc _
 have mF:w1.heap[w.heap.size]?=some (.cells #[.int .i64 0,.int .i64 0,.int .i64 0,.int .i64 0] 73 (0,0)):=by rw[dZ];exact heap_alloc_new _ _
 have dE:=(dd.block pb sn (fun x=>x)).trans hb
 obtain⟨⟨c0,c1,c2,c3,c4,c5,c6,c7,c8⟩,hf⟩:=qT dE
 have fq:∀k,w1.frozen? ⟨w.heap.size,k,none⟩=false:=fun k=>by simp[World.frozen?,mF]
 have B8:=fq 0
 have B9:=fq 1
 have Ca:=fq 2
 have Cb:=fq 3
 have y0:w1.cell? ⟨w.heap.size,0,none⟩=some (.int .i64 0):=by simp[World.cell?,mF]
 have y1:w1.cell? ⟨w.heap.size,1,none⟩=some (.int .i64 0):=by simp[World.cell?,mF]
 have y2:w1.cell? ⟨w.heap.size,2,none⟩=some (.int .i64 0):=by simp[World.cell?,mF]
 have y3:w1.cell? ⟨w.heap.size,3,none⟩=some (.int .i64 0):=by simp[World.cell?,mF]
 rw[dZ]at c0 c5 c6 c7 c8 B8 B9 Ca Cb y0 y1 y2 y3
 unfold aw at c0
 clear fq hf c1 c2 c3 c4
 go_enter Tryz.func27,Tryz.ntmps27
 go_wp2
 obtain⟨w3,gT⟩:∃w3,w3=w.alloc (.cells #[.int .i64 (a:Int),.int .i64 (b:Int),.int .i64 (d:Int),.int .i64 (e:Int)] 73):=⟨_,rfl⟩
 rw[<-gT]
 have K3:aa (fun _=>False) w w3:=by rw[gT];exact(aa.refl _ w).alloc _
 have iy:w3.heap[w.heap.size]?=some (.cells #[.int .i64 (a:Int),.int .i64 (b:Int),.int .i64 (d:Int),.int .i64 (e:Int)] 73 (0,0)):=by rw[gT];exact heap_alloc_new _ _
 have x0:w3.cell? ⟨w.heap.size,0,none⟩=some (.int .i64 (a:Int)):=by simp[World.cell?,iy]
 have x1:w3.cell? ⟨w.heap.size,1,none⟩=some (.int .i64 (b:Int)):=by simp[World.cell?,iy]
 have x2:w3.cell? ⟨w.heap.size,2,none⟩=some (.int .i64 (d:Int)):=by simp[World.cell?,iy]
 have x3:w3.cell? ⟨w.heap.size,3,none⟩=some (.int .i64 (e:Int)):=by simp[World.cell?,iy]
 clear gT
 exact bodyPost_ret (v:=.agg #[.int .i64 (a:Int),.int .i64 (b:Int),.int .i64 (d:Int),.int .i64 (e:Int)]) (by simp[results,Tryz.results27,go_sem,x0,x1,x2,x3]) rfl ⟨rfl,K3⟩
end Go.Proofs.YtagklnaaoclmhaaGreatDoor
