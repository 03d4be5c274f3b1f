import Derived.Test.YtagklnaaoclmhaaGreatDoorMnAD
import Derived.Maps.OwnOps
import Derived.ChangeKeysEq
import Derived.Test.YtagklnaaoclmhaaGreatDoorProg
import Derived.Conc.MuLone
import Derived.KernelRfl
import Derived.Deep.RegionWith
set_option linter.unusedSimpArgs false
set_option linter.unusedVariables false
set_option maxRecDepth 100000
set_option maxHeartbeats 16000000
namespace Go.Proofs.YtagklnaaoclmhaaGreatDoor
open Go.RowKit
section
variable {b:Nat->Nat} {len:Nat}
end
def CV:List (Nat × Nat)->Int
 | []=>-1
 | e :: l=>if CV l<(e.1:Int) then (e.1:Int) else CV l
section
variable {b:Nat->Nat} {len:Nat}
end
section
variable (b:Nat->Nat) (len:Nat) (rs:List Rl) (ns:List Nd)
end
section
variable {b:Nat->Nat} {len:Nat} {rs:List Rl} {ns:List Nd}
end
section
variable (b:Nat->Nat) (len:Nat)
end
section
variable {b:Nat->Nat} {len:Nat}
end
def shN (k:Nat)(n:Ie):Ie:=⟨n.rule,n.from_,n.to,n.dep+k⟩
def vF (k:Nat)(o:Ot):Ot:=⟨o.to,o.ev,o.rn,o.tr.map (shN k)⟩
theorem Jg {s s':Nat->Option Ot}{k:Nat}(h:∀j,s' j=(s j).map (vF k)):∀l,iP s' l=(iP s l).map (vF k)
 | []=>rfl
 | j :: l=>by
  rw[iP,iP,h j]
  cases hj:s j with
  | none=>rfl
  | some o=>
   simp only[Option.map_some]
   rw[show (vF k o).to=o.to from rfl]
   split
   ·rfl
   ·rw[Jg h l]
    cases iP s l with
    | none=>rfl
    | some p=>rfl
theorem L7 {s s':Nat->Nat->Option Ot}{k:Nat}(h:∀j a,s' j a=(s j a).map (vF k)):∀l a,iE s' l a=(iE s l a).map (vF k)
 | [],_=>rfl
 | j :: l,a=>by
  rw[iE,iE,h j a]
  cases hj:s j a with
  | none=>rfl
  | some o=>
   simp only[Option.map_some]
   rw[show (vF k o).to=o.to from rfl]
   cases ho:o.to with
   | none=>rfl
   | some t=>
    simp only
    rw[L7 h l t]
    cases iE s l t with
    | none=>rfl
    | some p=>
     simp only[Option.map_some,vF]
     cases p.to with
     | none=>rfl
     | some u=>simp
theorem DO {s s':Nat->Option Ot}{k:Nat}(h:∀a,s' a=(s a).map (vF k)):∀f a,gy s' f a=(gy s f a).map (vF k)
 | 0,_=>rfl
 | f+1,a=>by
  rw[gy,gy,h a]
  cases hj:s a with
  | none=>rfl
  | some o=>
   simp only[Option.map_some]
   rw[show (vF k o).to=o.to from rfl]
   cases ho:o.to with
   | none=>rfl
   | some t=>
    simp only
    rw[DO h f t]
    cases gy s f t with
    | none=>rfl
    | some p=>simp[vF]
theorem Lp {b:Nat->Nat}{len:Nat}{rs:List Rl}{ns:List Nd}(k:Nat):∀f i a dp,bR b len rs ns f i a (dp+k)=(bR b len rs ns f i a dp).map (vF k)
 | 0,_,_,_=>rfl
 | f+1,i,a,dp=>by
  have ih:=Lp (b:=b) (len:=len) (rs:=rs) (ns:=ns) k f
  rw[bR,bR]
  split
  ·rfl
  split
  ·rw[show dp+k+1=dp+1+k by omega,ih]
   cases bR b len rs ns f (cL rs (dI rs (ap ns i))) a (dp+1) with
   | none=>rfl
   | some o=>
    simp only[Option.map_some,vF]
    cases o.to with
    | none=>rfl
    | some t=>rfl
  split
  ·exact Jg (fun j=>ih j a dp) _
  split
  ·exact L7 (fun j a=>ih j a dp) _ _
  split
  ·rw[ih]
   cases bR b len rs ns f ((ap ns i).subs.getD 0 0) a dp with
   | none=>rfl
   | some o=>
    obtain⟨to,ev,rn,tr⟩:=o
    cases to with
    | none=>rfl
    | some t=>rfl
  split
  ·exact DO (fun a=>ih _ a dp) _ _
  split
  ·rw[ih]
   cases bR b len rs ns f ((ap ns i).subs.getD 0 0) a dp with
   | none=>rfl
   | some o=>
    simp only[Option.map_some]
    rw[show (vF k o).to=o.to from rfl]
    cases ho:o.to with
    | none=>rfl
    | some t=>
     simp only
     rw[DO (fun a=>ih _ a dp) f t]
     cases gy (fun a=>bR b len rs ns f ((ap ns i).subs.getD 0 0) a dp) f t with
     | none=>rfl
     | some p=>simp[vF]
  ·rw[ih]
   cases bR b len rs ns f ((ap ns i).subs.getD 0 0) a dp with
   | none=>rfl
   | some o=>rfl
def fI (s:Int × Nat)(e:Nat × Nat):Int × Nat:=
 if s.1<(e.1:Int) then ((e.1:Int),2^e.2) else if s.1=(e.1:Int) then (s.1,s.2 ||| 2^e.2) else s
def dt (s t:Int × Nat):Int × Nat:=
 if s.1<t.1 then t else if s.1=t.1 then (s.1,s.2 ||| t.2) else s
def JD:Int × Nat:=(-1,0)
def cH (ev:List (Nat × Nat)):Int × Nat:=ev.foldl fI JD
theorem po (s:Int × Nat)(e:Nat × Nat):fI s e=dt s ((e.1:Int),2^e.2):=rfl
theorem fA (s t u:Int × Nat):dt (dt s t) u=dt s (dt t u):=by
 obtain⟨s1,s2⟩:=s
 obtain⟨t1,t2⟩:=t
 obtain⟨u1,u2⟩:=u
 unfold dt
 dsimp only
 (repeat' split) <;> first | rfl | omega | (simp only at *;first | omega | (congr 1;exact Nat.or_assoc ..) | (subst_vars;first | rfl | omega | simp_all [Nat.or_assoc]))
theorem kX {s:Int × Nat}(h:-1<=s.1):dt s JD=s:=by
 unfold dt JD
 dsimp only
 (repeat' split) <;> first | rfl | omega | simp
theorem pu:∀(ev:List (Nat × Nat)) (s:Int × Nat),-1<=s.1->ev.foldl fI s=dt s (cH ev)
 | [],s,h=>(kX h).symm
 | e :: ev,s,h=>by
  have h1:-1<=(fI s e).1:=by unfold fI;(repeat' split) <;> first | omega | (dsimp only;omega)
  have h2:-1<=(fI JD e).1:=by unfold fI JD;(repeat' split) <;> (dsimp only at *;omega)
  unfold cH
  rw[List.foldl_cons,List.foldl_cons,pu ev _ h1,pu ev _ h2,po,po,<-fA,<-fA]
  rw[kX h]
theorem kr (l m:List (Nat × Nat)):cH (l++m)=dt (cH l) (cH m):=by
 have h:∀(ev:List (Nat × Nat)) (s:Int × Nat),-1<=s.1->-1<=(ev.foldl fI s).1:=by
  intro ev
  induction ev with
  | nil=>intro s h;exact h
  | cons e ev ih=>
   intro s h
   rw[List.foldl_cons]
   exact ih _ (by unfold fI;(repeat' split) <;> first | omega | (dsimp only;omega))
 show (l++m).foldl fI JD=_
 rw[List.foldl_append]
 exact pu m _ (h l JD (by decide))
theorem Aq:∀ev,(cH ev).1=CV ev
 | []=>rfl
 | e :: ev=>by
  have h:=kr [e] ev
  have h1:=Aq ev
  rw[List.singleton_append]at h
  have h0:cH [e]=((e.1:Int),2^e.2):=by
   unfold cH JD
   rw[List.foldl_cons,List.foldl_nil]
   unfold fI
   rw[if_pos (by dsimp only;omega)]
  rw[h,h0,CV,<-h1]
  unfold dt
  (repeat' split) <;> first | rfl | omega | (dsimp only at *;omega)
inductive Rs where
 | mk (rule from_:Nat) (to:Int) (cnt:Nat) (ay:List Rs)
def Rs.rule:Rs->Nat | .mk r _ _ _ _=>r
def Rs.from_:Rs->Nat | .mk _ a _ _ _=>a
def Rs.to:Rs->Int | .mk _ _ t _ _=>t
def Rs.cnt:Rs->Nat | .mk _ _ _ c _=>c
def Rs.inner:Rs->List Rs | .mk _ _ _ _ l=>l
structure Ky where
 inp:Nat
 rule:Nat
 place:Nat
deriving DecidableEq
structure Ms where
 ent:List (Ky × Rs)
 ord:List Ky
 plc:List (Option Ky)
 hits:Nat
structure Mc where
 pol:Nat
 bud:Nat
 mask:Nat
 nr:Nat
def oC (l:List (Ky × Rs))(k:Ky):Option Rs:=(l.find? (fun e=>decide (e.1=k))).map (·.2)
def pg:List (Ky × Rs)->Ky->Rs->List (Ky × Rs)
 | [],_,_=>[]
 | e :: l,k,r=>if e.1=k then (e.1,r) :: l else e :: pg l k r
def CN:List (Ky × Rs)->Ky->List (Ky × Rs)
 | [],_=>[]
 | e :: l,k=>if e.1=k then l else e :: CN l k
def ie (C:Mc)(M:Ms)(k:Ky):Ms:=if C.pol=2 then { M with ord:=k :: M.ord.erase k } else M
def fh (C:Mc)(M:Ms)(k:Ky):Option Rs × Ms:=
 match oC M.ent k with
 | none=>(none,M)
 | some r=>(some r,ie C { M with hits:=M.hits+1 } k)
def TH (C:Mc)(k:Ky):Nat:=(k.inp*61+k.place)*C.nr+k.rule
def cF (C:Mc)(M:Ms)(k:Ky):Option Ky × Ms:=
 if C.pol=2 then
  if M.ord.length<C.bud then (none,{ M with ord:=k :: M.ord })
  else (M.ord.getLast?,{ M with ord:=k :: M.ord.dropLast })
 else (M.plc.getD (TH C k%C.bud) none,{ M with plc:=M.plc.set (TH C k%C.bud) (some k) })
def eX (M:Ms):Option Ky->Ms
 | none=>M
 | some g=>{ M with ent:=CN M.ent g }
def eD (C:Mc)(M:Ms)(k:Ky)(r:Rs):Ms:=
 if C.mask / 2^k.rule%2=0 then M
 else if (oC M.ent k).isSome then ie C { M with ent:=pg M.ent k r } k
 else
  let A:=cF C M k
  let D:=eX A.2 A.1
  { D with ent:=D.ent++[(k,r)] }
structure Wt where
 cnt:Nat
 dn:Nat
 mt:List Rs
 far:Int × Nat
 kn:List (Option Int)
 mem:Ms
structure Wc where
 b:Nat->Nat
 len:Nat
 rs:List Rl
 ns:List Nd
 br:Nat->Nat
 most:Nat
 inp:Nat
 mc:Mc
def nJ (step:Nat->Wt->Option (Int × Wt)):List Nat->Wt->Option (Int × Wt)
 | [],s=>some (-1,s)
 | j :: l,s=>match step j s with
  | none=>none
  | some (t,s')=>if t=-1 then nJ step l s' else some (t,s')
def tE (step:Nat->Nat->Wt->Option (Int × Wt)):List Nat->Nat->Wt->Option (Int × Wt)
 | [],a,s=>some ((a:Int),s)
 | j :: l,a,s=>match step j a s with
  | none=>none
  | some (t,s')=>if t=-1 then some (-1,s') else tE step l t.toNat s'
def vG (step:Nat->Wt->Option (Int × Wt)):Nat->Nat->Wt->Option (Int × Wt)
 | 0,_,_=>none
 | f+1,a,s=>match step a s with
  | none=>none
  | some (t,s')=>if t=-1 then some ((a:Int),s') else vG step f t.toNat s'
def j8 (s:Wt)(M:Ms):Wt:={ s with mem:=M,cnt:=s.cnt+1,dn:=s.dn+1 }
def jJ (rule a:Nat)(s:Wt)(t:Int)(s1:Wt):Rs:=.mk rule a t (s1.cnt-s.cnt) (s1.mt.drop s.mt.length)
def BW (K:Wc)(rule a:Nat)(s:Wt)(t:Int)(s1:Wt):Wt:=
 { s1 with mt:=s1.mt.take s.mt.length++[jJ rule a s t s1],mem:=if K.most<s1.cnt then s1.mem else eD K.mc s1.mem ⟨K.inp,rule,a⟩ (jJ rule a s t s1) }
def lQ (K:Wc)(step:Nat->Wt->Option (Int × Wt))(rule a:Nat)(s:Wt):Option (Int × Wt):=
 match fh K.mc s.mem ⟨K.inp,rule,a⟩ with
 | (some r,M)=>some (r.to,{ s with mem:=M,cnt:=s.cnt+r.cnt,mt:=s.mt++[r] })
 | (none,M)=>match nJ step (ap K.ns (cL K.rs rule)).subs (j8 s M) with
  | none=>none
  | some (t,s1)=>some (t,BW K rule a s t s1)
def Cp (K:Wc)(i a:Nat):Nat:=K.br i*(K.len+1)+a
def Mu (K:Wc)(step:Nat->Wt->Option (Int × Wt))(i a:Nat)(s:Wt):Option (Int × Wt):=
 match s.kn.getD (Cp K i a) none with
 | some t=>some (t,s)
 | none=>match nJ step (ap K.ns i).subs s with
  | none=>none
  | some (t,s')=>some (t,if s'.cnt=s.cnt then { s' with kn:=s'.kn.set (Cp K i a) (some t) } else s')
def Ns (K:Wc)(N:Nd)(a:Nat)(s:Wt):Int × Wt:=
 match mX K.b K.len N a with
 | some t=>((t:Int),s)
 | none=>(-1,{ s with far:=fI s.far (a,N.term) })
def rT (n:Nat)(x:Int × Wt):Int × Wt:=if x.1=-1 then (x.1,{ x.2 with mt:=x.2.mt.take n }) else x
def Q1 (n a:Nat)(want:Bool)(x:Int × Wt):Int × Wt:=(if decide (x.1≠-1)=want then (a:Int) else -1,{ x.2 with mt:=x.2.mt.take n })
def Cu (K:Wc)(step:Nat->Nat->Wt->Option (Int × Wt))(f i a:Nat)(s:Wt):Option (Int × Wt):=
 if (ap K.ns i).kind<=2 then some (Ns K (ap K.ns i) a s)
 else if (ap K.ns i).kind=3 then lQ K (fun j s=>step j a s) (dI K.rs (ap K.ns i)) a s
 else if (ap K.ns i).kind=4 then Mu K (fun j s=>step j a s) i a s
 else if (ap K.ns i).kind=5 then tE step (ap K.ns i).subs a s
 else if (ap K.ns i).kind=6 then (step ((ap K.ns i).subs.getD 0 0) a s).map (fun x=>if x.1=-1 then ((a:Int),x.2) else x)
 else if (ap K.ns i).kind=7 then vG (fun a s=>step ((ap K.ns i).subs.getD 0 0) a s) f a s
 else if (ap K.ns i).kind=8 then
  match step ((ap K.ns i).subs.getD 0 0) a s with
  | none=>none
  | some (t,s')=>if t=-1 then some (-1,s') else vG (fun a s=>step ((ap K.ns i).subs.getD 0 0) a s) f t.toNat s'
 else (step ((ap K.ns i).subs.getD 0 0) a s).map (Q1 s.mt.length a (decide ((ap K.ns i).kind=9)))
def wM (K:Wc):Nat->Nat->Nat->Wt->Option (Int × Wt)
 | 0,_,_,_=>none
 | f+1,i,a,s=>if K.most<s.cnt then some (-1,s) else (Cu K (wM K f) f i a s).map (rT s.mt.length)
def lG (k:Ky):Value:=.agg #[.int .i64 (k.inp:Int),.int .i64 (k.rule:Int),.int .i64 (k.place:Int)]
theorem Yz (j k:Ky)(w:World):(Op.equal 225 (lG j) (lG k)).run Tryz.prog w=.ok (decide (j=k)) w:=by
 unfold Op.equal lG
 simp only[Op.maxDepth]
 rw[run_equalIn_struct w 9999 225 _ _ (by kernel_rfl) (by kernel_rfl)]
 simp[go_sem,Op.eqFields]
 obtain⟨a,b,c⟩:=j
 obtain⟨a',b',c'⟩:=k
 simp only[Ky.mk.injEq,Int.ofNat_inj]
 by_cases h1:a=a' <;> by_cases h2:b=b' <;> by_cases h3:c=c' <;> simp[h1,h2,h3]
theorem pN (e:Bool)(n:Nat)(k:Ky)(w:World):(Instr.checkKey e (n+2) 225 (lG k)).run Tryz.prog w=.ok () w:=by
 unfold lG
 rw[Instr.checkKey]
 simp[go_sem,Tryz.underlying225,Instr.checkKey]
def m9:List (Ky × Nat)->Ky->Nat->Option (Nat × Nat)
 | [],_,_=>none
 | e :: l,k,i=>if k=e.1 then some (i,e.2) else m9 l k (i+1)
def aw (b:Nat):Value:=.pointer (some ⟨b,0,none⟩)
def tH (es:List MapEntry)(EL:List (Ky × Nat)):Prop:=es.map (fun e=>(e.key,e.val))=EL.map (fun x=>(lG x.1,aw x.2))
theorem Eb (k:Ky)(w:World):∀(es:List MapEntry) (EL:List (Ky × Nat)) (i:Nat),tH es EL->(Instr.findAsking 225 (lG k) es i).run Tryz.prog w=.ok ((m9 EL k i).map (fun x=>(x.1,aw x.2))) w
 | [],[],i,_=>by simp[Instr.findAsking,m9]
 | [],_ :: _,i,h=>by simp[tH]at h
 | _ :: _,[],i,h=>by simp[tH]at h
 | e :: es,x :: EL,i,h=>by
  simp only[tH,List.map_cons,List.cons.injEq,Prod.mk.injEq]at h
  obtain⟨⟨h1,h2⟩,h3⟩:=h
  rw[Instr.findAsking,Sem.run_bind,h1,Yz]
  simp only[Result.andThen_ok,m9]
  by_cases hk:k=x.1
  ·simp[hk,h2]
  ·simp only[hk,decide_false,Bool.false_eq_true,if_false]
   exact Eb k w es EL (i+1) h3
theorem pr (k:Ky)(w:World)(es:List MapEntry)(EL:List (Ky × Nat))(h:tH es EL):(Instr.findKey 225 (lG k) es).run Tryz.prog w=.ok ((m9 EL k 0).map (fun x=>(x.1,aw x.2))) w:=by
 have ha:=Eb k w es EL 0 h
 rw[Instr.findKey,Sem.run_bind,run_underlying Tryz.underlying225]
 simp only[Result.andThen_ok]
 cases es with
 | nil=>
  cases EL with
  | nil=>simp[Instr.findNow,m9]
  | cons x l=>simp[tH]at h
 | cons e es=>
  have hk:∀fs,Instr.findNow (.struct fs) (lG k) (e :: es) 0=none:=by
   intro fs;simp[Instr.findNow,Instr.sameNow]
  rw[hk]
  exact ha
def ei (w:World)(eb:Nat)(EL:List (Ky × Nat)):Prop:=∃es c,w.heap[eb]?=some (.map es c)/\tH es.toList EL
theorem ei.lt {w:World}{eb:Nat}{EL:List (Ky × Nat)}(h:ei w eb EL):eb<w.heap.size:=by
 obtain⟨es,c,h1,_⟩:=h
 exact ag (show ai w eb=_ from h1)
theorem ei.same {w w':World}{eb:Nat}{EL:List (Ky × Nat)}(h:ei w eb EL)(he:w'.heap[eb]?=w.heap[eb]?):ei w' eb EL:=by
 obtain⟨es,c,h1,h2⟩:=h
 exact⟨es,c,by rw[he];exact h1,h2⟩
def mS (o:Option Nat):Value:=.pointer (o.map fun b=>⟨b,0,none⟩)
theorem uM {w:World}{eb:Nat}{EL:List (Ky × Nat)}(h:ei w eb EL)(k:Ky):(Instr.lookup 210 (.map (some eb)) (lG k) true).run Tryz.prog w=.ok (.tuple #[mS ((m9 EL k 0).map (·.2)),.bool (m9 EL k 0).isSome]) w:=by
 obtain⟨es,c,h1,h2⟩:=h
 unfold Instr.lookup
 simp only[Sem.run_bind,run_underlying Tryz.underlying210,Result.andThen_ok,run_getObj_map w eb es c h1,pN,Sem.run_pure]
 rw[pr k w _ _ h2]
 simp only[Result.andThen_ok]
 cases hx:m9 EL k 0 with
 | none=>simp[go_sem,mS]
 | some x=>simp[go_sem,mS,aw]
theorem tH.len {es:List MapEntry}{EL:List (Ky × Nat)}(h:tH es EL):es.length=EL.length:=by
 have:=congrArg List.length h
 simpa using this
def b8 (w:World)(eb:Nat)(o:Obj):World:={ w with heap:=w.heap.setIfInBounds eb o }
theorem fB (w:World)(eb:Nat)(o:Obj):aa (·=eb) w (b8 w eb o):=
 ⟨rfl,rfl,rfl,by simp[b8],fun i hi hn=>by
  show (w.heap.setIfInBounds eb o)[i]?=_
  rw[Array.getElem?_setIfInBounds_ne (fun h=>hn h.symm)]⟩
theorem tC {w:World}{eb:Nat}{EL:List (Ky × Nat)}(h:ei w eb EL)(k:Ky)(hk:m9 EL k 0=none)(b:Nat):∃o,(Instr.mapUpdate 210 (.map (some eb)) (lG k) (aw b)).run Tryz.prog w=.ok () (b8 w eb o)/\ei (b8 w eb o) eb (EL++[(k,b)]):=by
 obtain⟨es,c,h1,h2⟩:=h
 unfold Instr.mapUpdate
 have bj:=ag (show ai w eb=_ from h1)
 refine⟨.map (es.push ⟨lG k,aw b,c⟩) (c+1),?_,?_⟩
 ·simp only[Sem.run_bind,run_underlying Tryz.underlying210,Result.andThen_ok,run_getObj_map w eb es c h1,pN,Sem.run_pure]
  rw[pr k w _ _ h2,hk]
  simp only[Option.map_none,Result.andThen_ok]
  rw[MapKept.run_setObj_map _ h1]
  rfl
 ·refine⟨es.push ⟨lG k,aw b,c⟩,c+1,by simp[b8,bj],?_⟩
  unfold tH at h2 ⊢
  simp[h2]
theorem jV {α β:Type}(f:α->β):∀(l:List α) (j:Nat),(l.map f).eraseIdx j=(l.eraseIdx j).map f
 | [],j=>by simp
 | a :: l,0=>by simp
 | a :: l,j+1=>by simp[jV f l j]
def lU:List (Ky × Nat)->Ky->List (Ky × Nat)
 | [],_=>[]
 | e :: l,k=>if k=e.1 then l else e :: lU l k
theorem Jw:∀(EL:List (Ky × Nat)) (k:Ky) (i j b:Nat),m9 EL k i=some (j,b)->i<=j/\EL.eraseIdx (j-i)=lU EL k
 | [],_,_,_,_,h=>by cases h
 | e :: l,k,i,j,b,h=>by
  rw[m9]at h
  rw[lU]
  split at h
  ·next hk=>
   cases h
   rw[if_pos hk]
   simp
  ·next hk=>
   obtain⟨h1,h2⟩:=Jw l k (i+1) j b h
   rw[if_neg hk]
   refine⟨by omega,?_⟩
   rw[show j-i=(j-(i+1))+1 by omega,List.eraseIdx_cons_succ,h2]
theorem Et:∀(EL:List (Ky × Nat)) (k:Ky) (i:Nat),m9 EL k i=none->lU EL k=EL
 | [],_,_,_=>rfl
 | e :: l,k,i,h=>by
  rw[m9]at h
  rw[lU]
  split at h
  ·cases h
  ·next hk=>rw[if_neg hk,Et l k (i+1) h]
theorem Jv:∀(EL:List (Ky × Nat)) (k:Ky) (i j b:Nat),m9 EL k i=some (j,b)->j<i+EL.length
 | [],_,_,_,_,h=>by cases h
 | e :: l,k,i,j,b,h=>by
  rw[m9]at h
  split at h
  ·cases h;simp
  ·have:=Jv l k (i+1) j b h
   simp;omega
theorem Es {w:World}{eb:Nat}{EL:List (Ky × Nat)}(h:ei w eb EL)(k:Ky):∃o,(Builtin.delete_ #[210,225] 0 #[.map (some eb),lG k]).run Tryz.prog w=.ok (.tuple #[]) (b8 w eb o)/\ei (b8 w eb o) eb (lU EL k):=by
 obtain⟨es,c,h1,h2⟩:=h
 unfold Builtin.delete_
 have bj:=ag (show ai w eb=_ from h1)
 cases hx:m9 EL k 0 with
 | none=>
  refine⟨.map es c,?_,?_⟩
  ·simp only[List.getElem?_toArray,List.getElem?_cons_zero,List.getElem?_cons_succ,Sem.run_bind,run_underlying Tryz.underlying210,Result.andThen_ok,run_getObj_map w eb es c h1,pN,Sem.run_pure]
   rw[pr k w _ _ h2,hx]
   simp only[Option.map_none,Result.andThen_ok]
   rw[Sem.run_bind,MapKept.run_setObj_map _ h1]
   rfl
  ·rw[Et EL k 0 hx]
   exact⟨es,c,by simp[b8,bj],h2⟩
 | some x=>
  obtain⟨j,b⟩:=x
  have hj:=(Jw EL k 0 j b hx).2
  have C8:=Jv EL k 0 j b hx
  rw[Nat.sub_zero]at hj
  refine⟨.map (es.eraseIdxIfInBounds j) c,?_,?_⟩
  ·simp only[List.getElem?_toArray,List.getElem?_cons_zero,List.getElem?_cons_succ,Sem.run_bind,run_underlying Tryz.underlying210,Result.andThen_ok,run_getObj_map w eb es c h1,pN,Sem.run_pure]
   rw[pr k w _ _ h2,hx]
   simp only[Option.map_some,Result.andThen_ok]
   rw[Sem.run_bind,MapKept.run_setObj_map _ h1]
   rfl
  ·refine⟨es.eraseIdxIfInBounds j,c,by simp[b8,bj],?_⟩
   have M8:j<es.size:=by
    have:=h2.len
    simp at this
    omega
   unfold tH at h2 ⊢
   rw[<-hj,<-jV,<-h2,Array.eraseIdxIfInBounds,dif_pos M8,jV]
   simp
end Go.Proofs.YtagklnaaoclmhaaGreatDoor
namespace Go.Proofs.YtagklnaaoclmhaaGreatDoor
abbrev Tryz.muLink:Go.Conc.Locks.MuLink:={ lock:=108,unlock:=109,ilock:=154,iunlock:=155,lockSlow:=173,unlockSlow:=175,disable:=111,enable:=112,acquire:=123,relMerge:=110,cas32:=172,add32:=174,tMutex:=216,tIMutex:=214,tPMutex:=285,tPIMutex:=297,tPI32:=299,tUP:=236,tNoCopy:=164,tU32:=169 }
theorem Tryz.muLib:Go.Conc.Locks.MuLib Tryz.prog Tryz.muLink:=
 ⟨Tryz.func108,Tryz.func109,Tryz.func154,Tryz.func155,Tryz.func111,Tryz.func112,Tryz.func123,Tryz.func110,Tryz.func172,Tryz.func174,Tryz.underlying214,Tryz.runUnderlying214,Tryz.sizeOf214,Tryz.isAgg214,Tryz.zeroValue214,Tryz.underlying216,Tryz.runUnderlying216,Tryz.sizeOf216,Tryz.isAgg216,Tryz.zeroValue216,Tryz.underlying285,Tryz.runUnderlying285,Tryz.sizeOf285,Tryz.isAgg285,Tryz.zeroValue285,Tryz.underlying297,Tryz.runUnderlying297,Tryz.sizeOf297,Tryz.isAgg297,Tryz.zeroValue297,Tryz.underlying299,Tryz.runUnderlying299,Tryz.sizeOf299,Tryz.isAgg299,Tryz.zeroValue299,Tryz.underlying236,Tryz.runUnderlying236,Tryz.sizeOf236,Tryz.isAgg236,Tryz.zeroValue236,Tryz.underlying164,Tryz.runUnderlying164,Tryz.sizeOf164,Tryz.isAgg164,Tryz.zeroValue164,Tryz.underlying21,Tryz.runUnderlying21,Tryz.sizeOf21,Tryz.isAgg21,Tryz.zeroValue21,(by kernel_rfl)⟩
end Go.Proofs.YtagklnaaoclmhaaGreatDoor
namespace Go.Proofs.YtagklnaaoclmhaaGreatDoor
open Go.RowKit
def Lk (od nw:Nat->Nat):Nat->List Nat->Prop
 | _,[]=>True
 | p,q :: l=>od p=q/\nw q=p/\Lk od nw q l
def GX (p:Nat):List Nat->Nat
 | []=>p
 | q :: l=>GX q l
theorem qG {od nw:Nat->Nat}:∀(l m:List Nat) (p:Nat),Lk od nw p (l++m) ↔ Lk od nw p l/\Lk od nw (GX p l) m
 | [],m,p=>by simp[Lk,GX]
 | q :: l,m,p=>by
  rw[List.cons_append,Lk,Lk,qG l m q,GX]
  constructor
  ·rintro⟨a,b,c,d⟩;exact⟨⟨a,b,c⟩,d⟩
  ·rintro⟨⟨a,b,c⟩,d⟩;exact⟨a,b,c,d⟩
theorem tu:∀(l:List Nat) (p:Nat),GX p l=p\/GX p l∈l
 | [],p=>.inl rfl
 | q :: l,p=>by
  rw[GX]
  rcases tu l q with h | h
  ·exact .inr (by rw[h];simp)
  ·exact .inr (List.mem_cons_of_mem _ h)
theorem tL {od nw od' nw':Nat->Nat}:∀(l:List Nat) (p:Nat),(p :: l).Nodup->(∀x∈p :: l,x≠GX p l->od' x=od x)->(∀x∈l,nw' x=nw x)->Lk od nw p l->Lk od' nw' p l
 | [],_,_,_,_,_=>trivial
 | q :: l,p,hd,h1,h2,h=>by
  rw[Lk]at h ⊢
  obtain⟨a,b,c⟩:=h
  have Sj:=(List.nodup_cons.1 hd).2
  have eW:p≠GX q l:=by
   intro e
   have:=(List.nodup_cons.1 hd).1
   rcases tu l q with h3 | h3
   ·exact this (by rw[e,h3];simp)
   ·exact this (by rw[e];exact List.mem_cons_of_mem _ h3)
  refine⟨by rw[h1 p (by simp) eW];exact a,by rw[h2 q (by simp)];exact b,tL l q Sj (fun x hx hn=>h1 x (List.mem_cons_of_mem _ hx) hn) (fun x hx=>h2 x (List.mem_cons_of_mem _ hx)) c⟩
theorem qI {od nw od' nw':Nat->Nat}:∀(l:List Nat) (p z:Nat),(p :: l).Nodup->z ∉ p :: l->(∀x∈p :: l,od' x=od x)->(∀x∈l,nw' x=nw x)->nw' z=nw z->Lk od nw p (l++[z])->Lk od' nw' p (l++[z])
 | [],p,z,_,_,h1,_,h3,h=>by
  simp only[List.nil_append,Lk]at h ⊢
  exact⟨by rw[h1 p (by simp)];exact h.1,by rw[h3];exact h.2.1,trivial⟩
 | q :: l,p,z,hd,hz,h1,h2,h3,h=>by
  rw[List.cons_append,Lk]at h ⊢
  exact⟨by rw[h1 p (by simp)];exact h.1,by rw[h2 q (by simp)];exact h.2.1,qI l q z (List.nodup_cons.1 hd).2 (fun e=>hz (List.mem_cons_of_mem _ e)) (fun x hx=>h1 x (List.mem_cons_of_mem _ hx)) (fun x hx=>h2 x (List.mem_cons_of_mem _ hx)) h3 h.2.2⟩
structure qK (od nw:Nat->Nat)(ob:Nat)(l:List Nat):Prop where
 lk:Lk od nw ob (l++[ob])
 nd:(ob :: l).Nodup
def up (f:Nat->Nat)(a v:Nat):Nat->Nat:=fun x=>if x=a then v else f x
theorem eF (f:Nat->Nat)(a v:Nat):up f a v a=v:=by simp[up]
theorem gM {f:Nat->Nat}{a v x:Nat}(h:x≠a):up f a v x=f x:=by simp[up,h]
theorem qK.out {od nw:Nat->Nat}{ob b:Nat}{l1 l2:List Nat}(h:qK od nw ob (l1++b :: l2)):qK (up od (nw b) (od b)) (up nw (od b) (nw b)) ob (l1++l2):=by
 obtain⟨hl,hn⟩:=h
 have OC:(ob :: (l1++l2)).Nodup:=by
  have hp:(ob :: (l1++b :: l2)).Perm (b :: (ob :: (l1++l2))):=by
   have:(l1++b :: l2).Perm (b :: (l1++l2)):=List.perm_middle
   exact(List.Perm.cons ob this).trans (List.Perm.swap b ob _)
  exact(List.nodup_cons.1 (hp.nodup_iff.1 hn)).2
 refine⟨?_,OC⟩
 rw[List.append_assoc,List.cons_append,qG]at hl
 obtain⟨k1,k2,k3,k4⟩:=hl
 have KD:=(List.nodup_cons.1 hn).1
 have Iy:=(List.nodup_cons.1 hn).2
 rw[List.nodup_append]at Iy
 obtain⟨n1,n2,n3⟩:=Iy
 have dE:b ∉ l1:=fun e=>n3 b e b (by simp) rfl
 have Gv:b≠ob:=fun e=>KD (by rw[<-e];simp)
 have he1:GX ob l1=ob\/GX ob l1∈l1:=tu l1 ob
 rw[k3]
 rw[List.append_assoc,qG]
 cases l2 with
 | nil=>
  simp only[List.nil_append,Lk]at k4 ⊢
  obtain⟨q1,q2,_⟩:=k4
  rw[q1]
  have OF:ob ∉ l1:=fun e=>KD (List.mem_append_left _ e)
  refine⟨tL l1 ob (List.nodup_cons.2 ⟨OF,n1⟩) (fun x _ eW=>gM eW) (fun x hx=>gM (fun e=>OF (e ▸ hx))) k1,?_,?_,trivial⟩
  ·exact eF ..
  ·exact eF ..
 | cons q l2=>
  simp only[List.cons_append,Lk]at k4 ⊢
  obtain⟨q1,q2,q3⟩:=k4
  rw[q1]
  have OF:ob ∉ l1:=fun e=>KD (List.mem_append_left _ e)
  have mF:q ∉ l1:=fun e=>n3 q e q (by simp) rfl
  have KN:q≠ob:=fun e=>KD (by rw[<-e];simp)
  have Qr:ob ∉ l2:=fun e=>KD (List.mem_append_right _ (by simp[e]))
  have n2':=(List.nodup_cons.1 n2).2
  have qbu:=(List.nodup_cons.1 n2').1
  refine⟨tL l1 ob (List.nodup_cons.2 ⟨OF,n1⟩) (fun x _ eW=>gM eW) (fun x hx=>gM (fun e=>mF (e ▸ hx))) k1,eF ..,eF ..,?_⟩
  have qbi:∀x∈q :: l2,x≠GX ob l1:=by
   intro x hx e
   rcases he1 with h | h
   ·rw[h]at e
    subst e
    rcases List.mem_cons.1 hx with h | h
    ·exact KN h.symm
    ·exact Qr h
   ·rw[<-e]at h
    exact n3 x h x (List.mem_cons_of_mem _ hx) rfl
  exact qI l2 q ob n2' (fun e=>by
   rcases List.mem_cons.1 e with h | h
   ·exact KN h.symm
   ·exact Qr h) (fun x hx=>gM (qbi x hx)) (fun x hx=>gM (fun e=>qbu (e ▸ hx))) (gM (fun e=>KN e.symm)) q3
theorem qK.put {od nw:Nat->Nat}{ob b:Nat}{l:List Nat}(h:qK od nw ob l)(hb:b ∉ ob :: l):qK (up (up od b (od ob)) ob b) (up (up nw b ob) (od ob) b) ob (b :: l):=by
 obtain⟨hl,hn⟩:=h
 have Gv:b≠ob:=fun e=>hb (by simp[e])
 have iB:b ∉ l:=fun e=>hb (List.mem_cons_of_mem _ e)
 have KG:=(List.nodup_cons.1 hn).1
 have Iy:=(List.nodup_cons.1 hn).2
 refine⟨?_,List.nodup_cons.2 ⟨fun e=>?_,List.nodup_cons.2 ⟨iB,Iy⟩⟩⟩
 ·rw[List.cons_append,Lk]
  cases l with
  | nil=>
   simp only[List.nil_append,Lk]at hl ⊢
   obtain⟨q1,q2,_⟩:=hl
   rw[q1]
   refine⟨eF ..,?_,?_,?_,trivial⟩
   ·rw[gM Gv,eF]
   ·rw[gM Gv,eF]
   ·exact eF ..
  | cons q l=>
   simp only[List.cons_append,Lk]at hl ⊢
   obtain⟨q1,q2,q3⟩:=hl
   rw[q1]
   have hbq:b≠q:=fun e=>iB (by simp[e])
   have KN:q≠ob:=fun e=>KG (by simp[e])
   refine⟨eF ..,?_,?_,eF ..,?_⟩
   ·rw[gM hbq,eF]
   ·rw[gM Gv,eF]
   ·exact qI l q ob Iy KG (fun x hx=>by
     rw[gM (show x≠ob from fun e=>KG (e ▸ hx)),gM (show x≠b from fun e=>iB (e ▸ hx))]) (fun x hx=>by
     rw[gM (show x≠q from fun e=>(List.nodup_cons.1 Iy).1 (e ▸ hx)),gM (show x≠b from fun e=>iB (e ▸ List.mem_cons_of_mem _ hx))]) (by
     rw[gM (fun e=>KN e.symm),gM (fun e=>Gv e.symm)]) q3
 ·rcases List.mem_cons.1 e with h | h
  ·exact Gv h.symm
  ·exact KG h
theorem PV {od nw:Nat->Nat}:∀(l:List Nat) (p z x:Nat),Lk od nw p (l++[z])->x∈p :: l->od x∈l++[z]
 | [],p,z,x,h,hx=>by
  simp only[List.nil_append,Lk]at h
  rw[List.mem_singleton.1 hx,h.1];simp
 | q :: l,p,z,x,h,hx=>by
  rw[List.cons_append,Lk]at h
  rcases List.mem_cons.1 hx with e | e
  ·rw[e,h.1];simp
  ·exact List.mem_cons_of_mem _ (PV l q z x h.2.2 e)
theorem PU {od nw:Nat->Nat}:∀(l:List Nat) (p x:Nat),Lk od nw p l->x∈l->nw x∈p :: l
 | [],p,x,_,hx=>by cases hx
 | q :: l,p,x,h,hx=>by
  rw[Lk]at h
  rcases List.mem_cons.1 hx with e | e
  ·rw[e,h.2.1];simp
  ·exact List.mem_cons_of_mem _ (PU l q x h.2.2 e)
theorem qK.od_mem {od nw:Nat->Nat}{ob x:Nat}{l:List Nat}(h:qK od nw ob l)(hx:x∈ob :: l):od x∈ob :: l:=by
 have:=PV l ob ob x h.lk hx
 rcases List.mem_append.1 this with e | e
 ·exact List.mem_cons_of_mem _ e
 ·rw[List.mem_singleton.1 e];simp
theorem qK.nw_mem {od nw:Nat->Nat}{ob x:Nat}{l:List Nat}(h:qK od nw ob l)(hx:x∈ob :: l):nw x∈ob :: l:=by
 have E3:x∈l++[ob]:=by
  rcases List.mem_cons.1 hx with e | e
  ·rw[e];simp
  ·exact List.mem_append_left _ e
 have:=PU (l++[ob]) ob x h.lk E3
 rcases List.mem_cons.1 this with e | e
 ·rw[e];simp
 ·rcases List.mem_append.1 e with e | e
  ·exact List.mem_cons_of_mem _ e
  ·rw[List.mem_singleton.1 e];simp
theorem qK.last {od nw:Nat->Nat}{ob b:Nat}{l:List Nat}(h:qK od nw ob (l++[b])):nw ob=b:=by
 have:=h.lk
 rw[List.append_assoc,qG]at this
 exact this.2.2.2.2.1
theorem BS (b p q:Nat)(w:World)(h3:w.cell? ⟨b,3,none⟩=some (aw q))(h4:w.cell? ⟨b,4,none⟩=some (aw p))(vq vp:Value)(hq:w.cell? ⟨q,4,none⟩=some vq)(hp:w.cell? ⟨p,3,none⟩=some vp)(fq:w.frozen? ⟨q,4,none⟩=false)(fp:w.frozen? ⟨p,3,none⟩=false):
  Calls Tryz.prog 241 #[aw b] w fun e w'=>e=.returned (.tuple #[])/\∃n,w'=((w.setCell ⟨q,4,none⟩ (aw p)).setCell ⟨p,3,none⟩ (aw q)).drewN n:=by
 unfold aw at *
 go_enter Tryz.func241,Tryz.ntmps241
 go_wp2
 go_region
 go_end0
 exact⟨rfl,1,rfl⟩
theorem wG (ob b x:Nat)(w:World)(h3:w.cell? ⟨ob,3,none⟩=some (aw x))(vb3 vb4 vx:Value)(dY:w.cell? ⟨b,3,none⟩=some vb3)(C5:w.cell? ⟨b,4,none⟩=some vb4)(wv:w.cell? ⟨x,4,none⟩=some vx)(f3:w.frozen? ⟨ob,3,none⟩=false)(fb3:w.frozen? ⟨b,3,none⟩=false)(fb4:w.frozen? ⟨b,4,none⟩=false)(fx:w.frozen? ⟨x,4,none⟩=false)(sO:b≠ob)(UM:b≠x):
  Calls Tryz.prog 239 #[aw ob,aw b] w fun e w'=>e=.returned (.tuple #[])/\∃n,w'=((((w.setCell ⟨b,3,none⟩ (aw x)).setCell ⟨b,4,none⟩ (aw ob)).setCell ⟨x,4,none⟩ (aw b)).setCell ⟨ob,3,none⟩ (aw b)).drewN n:=by
 unfold aw at *
 have og:=sO.symm
 have QG:=UM.symm
 go_enter Tryz.func239,Tryz.ntmps239
 go_wp2
 go_region
 go_wp2
 go_region
 go_end0
 exact⟨rfl,2,rfl⟩
structure B5 where
 a0:Value
 a1:Value
 a2:Value
 a5:Value
 ty:Nat
def qJ (w:World)(A:Nat->B5)(od nw:Nat->Nat)(x:Nat):Prop:=
 w.heap[x]?=some (.cells #[(A x).a0,(A x).a1,(A x).a2,aw (od x),aw (nw x),(A x).a5] (A x).ty (0,0))
theorem qJ.set3 {w:World}{A:Nat->B5}{od nw:Nat->Nat}{x:Nat}(h:qJ w A od nw x)(q v:Nat):qJ (w.setCell ⟨q,3,none⟩ (aw v)) A (up od q v) nw x:=by
 unfold qJ at *
 by_cases hx:x=q
 ·subst hx;rw[aj h,eF];simp
 ·rw[Below.heap_setCell _ _ _ _ (show x≠q from hx),gM hx];exact h
theorem qJ.set4 {w:World}{A:Nat->B5}{od nw:Nat->Nat}{x:Nat}(h:qJ w A od nw x)(q v:Nat):qJ (w.setCell ⟨q,4,none⟩ (aw v)) A od (up nw q v) x:=by
 unfold qJ at *
 by_cases hx:x=q
 ·subst hx;rw[aj h,eF];simp
 ·rw[Below.heap_setCell _ _ _ _ (show x≠q from hx),gM hx];exact h
theorem qJ.cells {w:World}{A:Nat->B5}{od nw:Nat->Nat}{x:Nat}(h:qJ w A od nw x):w.cell? ⟨x,3,none⟩=some (aw (od x))/\w.cell? ⟨x,4,none⟩=some (aw (nw x))/\w.frozen? ⟨x,3,none⟩=false/\w.frozen? ⟨x,4,none⟩=false:=by
 unfold qJ at h
 refine⟨?_,?_,?_,?_⟩ <;> simp[World.cell?,World.frozen?,h]
def jj (w:World)(A:Nat->B5)(ob:Nat)(l:List Nat):Prop:=∃od nw,qK od nw ob l/\∀x∈ob :: l,qJ w A od nw x
structure V3 (A:Nat->B5)(ob b:Nat)(l:List Nat)(w:World)(e:Ending)(w':World):Prop where
 res:e=.returned (.tuple #[])
 rg:jj w' A ob l
 own:w'.heap[b]?=w.heap[b]?
 kept:aa (fun k=>k∈ob :: l) w w'
theorem qi (A:Nat->B5)(ob b:Nat)(l1 l2:List Nat)(w:World)(h:jj w A ob (l1++b :: l2)):Calls Tryz.prog 241 #[aw b] w fun e w'=>V3 A ob b (l1++l2) w e w':=by
 obtain⟨od,nw,hr,hl⟩:=h
 have xj:b∈ob :: (l1++b :: l2):=by simp
 have hq:=hr.od_mem xj
 have hp:=hr.nw_mem xj
 obtain⟨b3,b4,_,_⟩:=(hl b xj).cells
 obtain⟨_,q4,_,qf⟩:=(hl _ hq).cells
 obtain⟨p3,_,pf,_⟩:=(hl _ hp).cells
 have ho:=hr.out
 have oe:b ∉ ob :: (l1++l2):=by
  have hp:(ob :: (l1++b :: l2)).Perm (b :: (ob :: (l1++l2))):=by
   have:(l1++b :: l2).Perm (b :: (l1++l2)):=List.perm_middle
   exact(List.Perm.cons ob this).trans (List.Perm.swap b ob _)
  exact(List.nodup_cons.1 (hp.nodup_iff.1 hr.nd)).1
 have dL:∀x∈ob :: (l1++b :: l2),x≠b->x∈ob :: (l1++l2):=by
  intro x hx eW
  simp at hx ⊢
  rcases hx with h | h | h | h
  ·exact .inl h
  ·exact .inr (.inl h)
  ·exact absurd h eW
  ·exact .inr (.inr h)
 have hnq:od b≠b:=by
  intro e
  have h1:=hr.lk
  rw[List.append_assoc,List.cons_append,qG]at h1
  have Iy:=(List.nodup_cons.1 hr.nd).2
  rw[List.nodup_append]at Iy
  cases l2 with
  | nil=>
   have:od b=ob:=h1.2.2.2.1
   rw[e]at this
   exact oe (by simp[this])
  | cons q l2=>
   have:od b=q:=h1.2.2.2.1
   rw[e]at this
   exact(List.nodup_cons.1 Iy.2.1).1 (by simp[this])
 have hnp:nw b≠b:=by
  intro e
  have h1:=hr.lk
  rw[List.append_assoc,List.cons_append,qG]at h1
  have h2:nw b=GX ob l1:=h1.2.2.1
  rw[e]at h2
  rcases tu l1 ob with h | h
  ·exact oe (by simp[h2,h])
  ·exact oe (List.mem_cons_of_mem _ (List.mem_append_left _ (by rw[h2];exact h)))
 refine(BS b (nw b) (od b) w b3 b4 _ _ q4 p3 qf pf).mono ?_
 rintro e w' ⟨rfl,n,rfl⟩
 refine⟨rfl,⟨up od (nw b) (od b),up nw (od b) (nw b),ho,fun x hx=>?_⟩,?_,?_⟩
 ·have E3:x∈ob :: (l1++b :: l2):=by
   simp at hx ⊢
   rcases hx with h | h | h
   ·exact .inl h
   ·exact .inr (.inl h)
   ·exact .inr (.inr (.inr h))
  exact((hl x E3).set4 (od b) (nw b)).set3 (nw b) (od b)
 ·show ((w.setCell _ _).setCell _ _).heap[b]?=_
  rw[Below.heap_setCell _ _ _ _ (show b≠nw b from fun e=>hnp e.symm),Below.heap_setCell _ _ _ _ (show b≠od b from fun e=>hnq e.symm)]
 ·exact(((aa.refl _ w).setCell (p:=⟨od b,4,none⟩) (fun _=>dL _ hq hnq) _).setCell (p:=⟨nw b,3,none⟩) (fun _=>dL _ hp hnp) _).drewN n
structure PW (A:Nat->B5)(ob b:Nat)(l:List Nat)(w:World)(e:Ending)(w':World):Prop where
 res:e=.returned (.tuple #[])
 rg:jj w' A ob (b :: l)
 kept:aa (fun k=>k∈ob :: b :: l) w w'
theorem jw (A:Nat->B5)(ob b:Nat)(l:List Nat)(w:World)(h:jj w A ob l)(hb:b ∉ ob :: l)(v3 v4:Value)(hB:w.heap[b]?=some (.cells #[(A b).a0,(A b).a1,(A b).a2,v3,v4,(A b).a5] (A b).ty (0,0))):Calls Tryz.prog 239 #[aw ob,aw b] w fun e w'=>PW A ob b l w e w':=by
 obtain⟨od,nw,hr,hl⟩:=h
 have hom:ob∈ob :: l:=by simp
 have hx:=hr.od_mem hom
 obtain⟨o3,_,of3,_⟩:=(hl ob hom).cells
 obtain⟨_,x4,_,xf⟩:=(hl _ hx).cells
 have sO:b≠ob:=fun e=>hb (by simp[e])
 have UM:b≠od ob:=fun e=>hb (by rw[e];exact hx)
 refine(wG ob b (od ob) w o3 v3 v4 _ (by simp[World.cell?,hB]) (by simp[World.cell?,hB]) x4 of3 (by simp[World.frozen?,hB]) (by simp[World.frozen?,hB]) xf sO UM).mono ?_
 rintro e w' ⟨rfl,n,rfl⟩
 refine⟨rfl,⟨_,_,hr.put hb,fun y hy=>?_⟩,?_⟩
 ·by_cases Tm:y=b
  ·subst Tm
   have h1:qJ ((w.setCell ⟨y,3,none⟩ (aw (od ob))).setCell ⟨y,4,none⟩ (aw ob)) A (up od y (od ob)) (up nw y ob) y:=by
    unfold qJ
    rw[eF,eF]
    have h2:=aj (o:=3) (u:=aw (od ob)) hB
    rw[aj h2]
    simp
   exact(h1.set4 (od ob) y).set3 ob y
  ·have ZT:y∈ob :: l:=by
    simp at hy ⊢
    rcases hy with h | h | h
    ·exact .inl h
    ·exact absurd h Tm
    ·exact .inr h
   exact((((hl y ZT).set3 b (od ob)).set4 b ob).set4 (od ob) b).set3 ob b
 ·have E3:od ob∈ob :: b :: l:=by
   simp at hx ⊢
   rcases hx with h | h
   ·exact .inl h
   ·exact .inr (.inr h)
  exact(((((aa.refl _ w).setCell (p:=⟨b,3,none⟩) (fun _=>by simp) _).setCell (p:=⟨b,4,none⟩) (fun _=>by simp) _).setCell (p:=⟨od ob,4,none⟩) (fun _=>E3) _).setCell (p:=⟨ob,3,none⟩) (fun _=>by simp) _).drewN n
theorem jj.congr {w w':World}{A A':Nat->B5}{ob:Nat}{l:List Nat}(h:jj w A ob l)(hA:∀x∈ob :: l,A' x=A x)(hw:∀x∈ob :: l,w'.heap[x]?=w.heap[x]?):jj w' A' ob l:=by
 obtain⟨od,nw,hr,hl⟩:=h
 refine⟨od,nw,hr,fun x hx=>?_⟩
 have:=hl x hx
 unfold qJ at *
 rw[hA x hx,hw x hx];exact this
theorem TP {ob b:Nat}{l1 l2:List Nat}(h:(ob :: (l1++b :: l2)).Nodup):b ∉ ob :: (l1++l2):=by
 have hp:(ob :: (l1++b :: l2)).Perm (b :: (ob :: (l1++l2))):=by
  have:(l1++b :: l2).Perm (b :: (l1++l2)):=List.perm_middle
  exact(List.Perm.cons ob this).trans (List.Perm.swap b ob _)
 exact(List.nodup_cons.1 (hp.nodup_iff.1 h)).1
theorem Mq (A:Nat->B5)(ob b:Nat)(l1 l2:List Nat)(w:World)(h:jj w A ob (l1++b :: l2)):
  Calls Tryz.prog 240 #[aw ob,aw b] w fun e w'=>PW A ob b (l1++l2) w e w':=by
 obtain⟨od,nw,hr,hl⟩:=h
 have hb:=hl b (by simp)
 have oe:=TP hr.nd
 have hT:=qi A ob b l1 l2 w ⟨od,nw,hr,hl⟩
 unfold aw at *
 go_enter Tryz.func240,Tryz.ntmps240
 go_wp2_with fail
 refine hT.mono ?_
 rintro e w1 ⟨rfl,oh,Qq,ux⟩
 have hP:=jw A ob b (l1++l2) w1 oh oe _ _ (by rw[Qq];exact hb)
 unfold aw at hP
 go_wp2_with fail
 refine hP.mono ?_
 rintro e w2 ⟨rfl,SZ,co⟩
 go_wp2
 go_end0
 exact⟨rfl,SZ,(ux.mono (fun k _ hk=>by simp at hk ⊢;rcases hk with h | h | h;exact .inl h;exact .inr (.inr (.inl h));exact .inr (.inr (.inr h)))).trans co⟩
theorem F4 (A:Nat->B5)(ob b fr:Nat)(l:List Nat)(w:World)(h:jj w A ob l)(hb:b ∉ ob :: l)(v3 v4:Value)(hB:w.heap[b]?=some (.cells #[(A b).a0,(A b).a1,(A b).a2,v3,v4,(A b).a5] (A b).ty (0,0)))
  (hf:(A ob).a5=.int .i64 ((fr+1:Nat):Int)) (Kl:fr<1000):
  Calls Tryz.prog 238 #[aw ob,aw b] w fun e w'=>e=.returned (.pointer none)/\jj w' (fun x=>if x=ob then { A ob with a5:=.int .i64 (fr:Int) } else A x) ob (b :: l)/\aa (fun k=>k∈ob :: b :: l) w w':=by
 obtain⟨od,nw,hr,hl⟩:=h
 have ho:=hl ob (by simp)
 unfold qJ at ho
 rw[hf]at ho
 have c5:w.cell? ⟨ob,5,none⟩=some (.int .i64 ((fr+1:Nat):Int)):=by simp[World.cell?,ho]
 have f5:w.frozen? ⟨ob,5,none⟩=false:=by simp[World.frozen?,ho]
 have sO:b≠ob:=fun e=>hb (by simp[e])
 have oh:jj (w.setCell ⟨ob,5,none⟩ (.int .i64 (fr:Int))) (fun x=>if x=ob then { A ob with a5:=.int .i64 (fr:Int) } else A x) ob l:=by
  refine⟨od,nw,hr,fun x hx=>?_⟩
  by_cases hxo:x=ob
  ·subst hxo
   unfold qJ
   rw[aj ho]
   simp
  ·have:=hl x hx
   unfold qJ at *
   rw[Below.heap_setCell _ _ _ _ (show x≠ob from hxo)]
   simp only[hxo,if_false]
   exact this
 have hP:=jw _ ob b l _ oh hb v3 v4 (by
  rw[Below.heap_setCell _ _ _ _ (show b≠ob from sO)]
  simp only[sO,if_false]
  exact hB)
 have hg:((fr+1:Nat):Int) > 0:=by omega
 have hc:(((fr+1:Nat):Int)-1)=(fr:Int):=by omega
 unfold aw at *
 go_enter Tryz.func238,Tryz.ntmps238
 go_wp2_with fail
 refine hP.mono ?_
 rintro e w2 ⟨rfl,SZ,co⟩
 go_wp2
 go_ret
 exact⟨rfl,SZ,((aa.refl _ w).setCell (p:=⟨ob,5,none⟩) (fun _=>by simp) _).trans co⟩
theorem F5 (A:Nat->B5)(ob b g:Nat)(l:List Nat)(w:World)(h:jj w A ob (l++[g]))(hb:b ∉ ob :: (l++[g]))(v3 v4:Value)(hB:w.heap[b]?=some (.cells #[(A b).a0,(A b).a1,(A b).a2,v3,v4,(A b).a5] (A b).ty (0,0)))
  (hf:(A ob).a5=.int .i64 0):
  Calls Tryz.prog 238 #[aw ob,aw b] w fun e w'=>e=.returned (aw g)/\jj w' A ob (b :: l)/\aa (fun k=>k∈ob :: b :: l) w w':=by
 obtain⟨od,nw,hr,hl⟩:=h
 have ho:=hl ob (by simp)
 obtain⟨_,o4,_,_⟩:=ho.cells
 rw[hr.last]at o4
 unfold qJ at ho
 rw[hf]at ho
 have c5:w.cell? ⟨ob,5,none⟩=some (.int .i64 0):=by simp[World.cell?,ho]
 have iB:b ∉ ob :: l:=fun e=>hb (by simp at e ⊢;rcases e with h | h;exact .inl h;exact .inr (.inl h))
 have hT:=qi A ob g l [] w ⟨od,nw,hr,hl⟩
 rw[List.append_nil]at hT
 have qw:b≠g:=fun e=>hb (by simp[e])
 unfold aw at *
 go_enter Tryz.func238,Tryz.ntmps238
 go_wp2_with fail
 refine hT.mono ?_
 rintro e w1 ⟨rfl,oh,Qq,ux⟩
 have hP:=jw A ob b l w1 oh iB v3 v4 (by
  rw[ux.block b (ag (show ai w b=_ from hB)) iB];exact hB)
 unfold aw at hP
 go_wp2_with fail
 refine hP.mono ?_
 rintro e w2 ⟨rfl,SZ,co⟩
 go_wp2
 go_ret
 exact⟨rfl,SZ,(ux.mono (fun k _ hk=>by simp at hk ⊢;rcases hk with h | h;exact .inl h;exact .inr (.inr h))).trans co⟩
structure sB (k:Ky):Prop where
 inp:k.inp<=20
 rule:k.rule<8
 place:k.place<=60
def kN (nr:Nat)(k:Ky):Nat:=(k.inp*61+k.place)*nr+k.rule
theorem YU {x:Int}(h:0<=x/\x<=2000000):IntKind.i64.wrap x=x:=by
 rw[IntKind.wrap_i64]
 omega
theorem av {w:World}{b o:Nat}{v:Value}(h:w.cell? ⟨b,o,none⟩=some v):b<w.heap.size:=by
 rcases Nat.lt_or_ge b w.heap.size with h1 | h1
 ·exact h1
 ·have:w.heap[b]?=none:=Array.getElem?_eq_none h1
  simp[World.cell?,this]at h
theorem DB (db:Nat)(k:Ky)(nr:Nat)(w:World)(hk:sB k)(hn:nr<=8)(hD:w.cell? ⟨db,1,none⟩=some (.int .i64 (nr:Int))):
  Calls Tryz.prog 237 #[aw db,lG k] w fun e w'=>e=.returned (.int .i64 (kN nr k:Int))/\∃n,w'=(w.alloc (.cells #[.int .i64 (k.inp:Int),.int .i64 (k.rule:Int),.int .i64 (k.place:Int)] 225)).drewN n:=by
 obtain⟨i,r,p⟩:=k
 obtain⟨h1,h2,h3⟩:=hk
 dsimp only at h1 h2 h3
 have ZB:=av hD
 have hm:(i*61+p)*nr<=1280*8:=Nat.mul_le_mul (by omega) hn
 have e3:wrap64 (((i:Int)*61+(p:Int))*(nr:Int))=(((i*61+p)*nr:Nat):Int):=by
  rw[show ((i:Int)*61+(p:Int))*(nr:Int)=(((i*61+p)*nr:Nat):Int) by push_cast;rfl]
  generalize (i*61+p)*nr=x at *
  unfold wrap64;omega
 have e4:wrap64 ((((i*61+p)*nr:Nat):Int)+(r:Int))=(((i*61+p)*nr+r:Nat):Int):=by
  generalize (i*61+p)*nr=x at *
  unfold wrap64;omega
 have E4:Hid (wrap64 (wrap64 (((i:Int)*61+(p:Int))*(nr:Int))+(r:Int))=(((i*61+p)*nr+r:Nat):Int)):=by unfold Hid;rw[e3,e4]
 clear e3 e4
 unfold kN aw lG
 dsimp only
 go_enter Tryz.func237,Tryz.ntmps237
 go_wp2
 go_quiet (fail)
 go_wp2
 go_ret
 refine⟨?_,_,rfl⟩
 rw[<-E4.out]
 rfl
theorem IW (db pb b bud nr:Nat)(k:Ky)(cs:Array Value)(v v3 v4 v5:Value)(ty:Nat)(w:World)(hk:sB k)(hn:nr<=8)(hD:w.heap[db]?=some (.cells #[.slice (some ⟨pb,0,none⟩) bud bud,.int .i64 (nr:Int)] 270 (0,0)))
  (hB:w.heap[b]?=some (.cells #[.int .i64 (k.inp:Int),.int .i64 (k.rule:Int),.int .i64 (k.place:Int),v3,v4,v5] ty (0,0)))
  (hP:w.heap[pb]?=some (.cells cs 271 (0,0))) (sP:0<bud) (hbud2:bud<=1000) (hv:cs[kN nr k%bud]?=some v):
  Calls Tryz.prog 235 #[aw db,aw b] w fun e w'=>e=.returned v/\w'.heap[pb]?=some (.cells (cs.setIfInBounds (kN nr k%bud) (aw b)) 271 (0,0))/\aa (·=pb) w w':=by
 have c0:w.cell? ⟨db,0,none⟩=some (.slice (some ⟨pb,0,none⟩) bud bud):=by simp[World.cell?,hD]
 have c1:w.cell? ⟨db,1,none⟩=some (.int .i64 (nr:Int)):=by simp[World.cell?,hD]
 have b0:w.cell? ⟨b,0,none⟩=some (.int .i64 (k.inp:Int)):=by simp[World.cell?,hB]
 have b1:w.cell? ⟨b,1,none⟩=some (.int .i64 (k.rule:Int)):=by simp[World.cell?,hB]
 have b2:w.cell? ⟨b,2,none⟩=some (.int .i64 (k.place:Int)):=by simp[World.cell?,hB]
 have hN:=fun(w':World) (h:w'.cell? ⟨db,1,none⟩=some (.int .i64 (nr:Int)))=>DB db k nr w' hk hn h
 have bj:kN nr k%bud<bud:=Nat.mod_lt _ sP
 have ZB:=av c0
 have qcB:¬db=w.heap.size:=by omega
 have sh:¬(bud:Int)=0:=by omega
 have dE:¬bud=0:=by omega
 have kM:=av b0
 have hpb:=av (show w.cell? ⟨pb,kN nr k%bud,none⟩=some v by simp[World.cell?,hP,hv])
 have hq:w.cell? ⟨pb,kN nr k%bud,none⟩=some v:=by simp[World.cell?,hP,hv]
 have Na:w.frozen? ⟨pb,kN nr k%bud,none⟩=false:=by simp[World.frozen?,hP]
 have fin:∀(o:Obj) (n:Nat),(((w.alloc o).drewN n).setCell ⟨pb,kN nr k%bud,none⟩ (aw b)).heap[pb]?=some (.cells (cs.setIfInBounds (kN nr k%bud) (aw b)) 271 (0,0))/\aa (·=pb) w (((w.alloc o).drewN n).setCell ⟨pb,kN nr k%bud,none⟩ (aw b)):=by
  intro o n
  have h1:((w.alloc o).drewN n).heap[pb]?=some (.cells cs 271 (0,0)):=(Below.heap_alloc _ _ _ hpb).trans hP
  exact⟨aj h1 _ _,(((aa.refl (·=pb) w).alloc o).drewN n).setCell (p:=⟨pb,kN nr k%bud,none⟩) (fun _=>rfl) _⟩
 unfold aw lG at *
 go_enter Tryz.func235,Tryz.ntmps235
 go_wp2
 go_region_with (go_at_call 237;refine(hN w.drew c1).mono ?_;rintro e w1 ⟨rfl,n1,rfl⟩)
 all_goals go_wp2
 all_goals go_ret
 all_goals exact⟨rfl,(fin _ _).1,(fin _ _).2⟩
theorem BU (db b:Nat)(w:World):Calls Tryz.prog 236 #[aw db,aw b] w fun e w'=>e=.returned (.tuple #[])/\w'=w:=by
 unfold aw
 go_enter Tryz.func236,Tryz.ntmps236
 go_wp2
 go_end0
 exact⟨rfl,rfl⟩
end Go.Proofs.YtagklnaaoclmhaaGreatDoor
