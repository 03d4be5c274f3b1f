import Derived.Test.YtagklnaaoclmhaaGreatDoorMnAB
set_option linter.unusedSimpArgs false
set_option linter.unusedVariables false
set_option maxRecDepth 100000
set_option maxHeartbeats 16000000
namespace Go.Proofs.YtagklnaaoclmhaaGreatDoor
open Go.RowKit
def df:Array Value:=(Value.int .i64 0 :: .string ⟨#[]⟩ :: (List.replicate 256 (.bool false)++[.int .i64 0,.string ⟨#[]⟩,.int .i64 0,.slice none 0 0])).toArray
theorem Ts:(Tryz.prog.info? 179).map (fun i=>(i.zero,i.size,i.bytes))=some (some (.agg df),262,336):=by kernel_rfl
theorem L3:(Tryz.prog.info? 179).map (·.size)=some 262:=by kernel_rfl
theorem cy:df.size=262:=by kernel_rfl
theorem lg:∃i,Tryz.prog.info? 179=some i/\i.zero=some (.agg df)/\i.size=262/\i.bytes=336:=by
 have h:=Ts
 cases hi:Tryz.prog.info? 179 with
 | none=>rw[hi]at h;cases h
 | some i=>
  rw[hi]at h
  simp only[Option.map_some,Option.some.injEq,Prod.mk.injEq]at h
  exact⟨i,rfl,h.1,h.2.1,h.2.2⟩
section
variable (ρ:Operand->Value) (d:Option Nat) (x y z:Operand) (ty:TypeId) (pos:String) (af:Array Edge) (gd:Option (Nat × Bool)) (W:World)
def kx (P:Program)(o:Option Obj)(k i:Nat)(W:World):Result Next:=
 match o with
 | some (.cells c _ _)=>if i+262<=c.size then .ok (.value (.agg (c.extract i (i+262)))) W else (do pure (.value (<-Instr.loadAt 179 (.pointer (some ⟨k,i,none⟩)))):Sem Next).run P W
 | _=>(do pure (.value (<-Instr.loadAt 179 (.pointer (some ⟨k,i,none⟩)))):Sem Next).run P W
def uI (P:Program)(v:Value)(W:World):Result Next:=
 match v with
 | .pointer (some ⟨k,i,none⟩)=>kx P (ai W k) k i W
 | v=>(do pure (.value (<-Instr.loadAt 179 v)):Sem Next).run P W
theorem aQ (c:Array Value)(e:TypeId)(fr:Nat × Nat)(k i:Nat)(h:i+262<=c.size):kx Tryz.prog (some (.cells c e fr)) k i W=.ok (.value (.agg (c.extract i (i+262)))) W:=by
 simp only[kx,h,if_true]
theorem bc (k i:Nat):uI Tryz.prog (.pointer (some ⟨k,i,none⟩)) W=kx Tryz.prog (ai W k) k i W:=rfl
theorem bw:(execOp ρ { dst:=d,op:=.load 179 x,type:=ty,pos:=pos,after:=af,guard:=gd }).run Tryz.prog W=uI Tryz.prog (ρ x) W:=by
 have e:(execOp ρ { dst:=d,op:=.load 179 x,type:=ty,pos:=pos,after:=af,guard:=gd }).run Tryz.prog W=(do pure (.value (<-Instr.loadAt 179 (ρ x))):Sem Next).run Tryz.prog W:=rfl
 rw[e]
 unfold uI
 split
 ·next k i hv=>
  rw[hv]
  unfold kx
  split
  ·next c t fr hc=>
   by_cases gh:i+262<=c.size
   ·rw[if_pos gh]
    have hr:=World.rangeAt_of_block (show W.heap[k]?=_ from hc) i 262
    have eI:(c.extract i (i+262)).toList.length=262:=by simp;omega
    have:=run_loadAt_mid (P:=Tryz.prog) W k i 179 _ _ hr Tryz.underlying179 rfl (by rw[eI];exact L3)
    simp only[Sem.run_bind,this,Result.andThen_ok,Sem.run_pure]
   ·rw[if_neg gh]
  ·rfl
 ·rfl
theorem aX:(execOp ρ { dst:=d,op:=.alloc 179,type:=ty,pos:=pos,after:=af,guard:=gd }).run Tryz.prog W=.ok (.value (.pointer (some ⟨W.heap.size,0,none⟩))) (W.alloc (.cells df 179)):=by
 obtain⟨i,h1,h2,h3,h4⟩:=lg
 simp[execOp,Instr.alloc,zeroValue,typeInfo,h1,h2,newVar,newRow,newObj,Value.cells,Sem.run_bind]
 rfl
def kG (P:Program)(o:Option Obj)(k:Nat)(c':Array Value)(W:World):Result Next:=
 match o with
 | some (.cells c 179 (0,0))=>if c.size=262/\c'.size=262/\kB c'=true then .ok .skip (W.setRow k c') else (do Instr.storeAt 179 (.pointer (some ⟨k,0,none⟩)) (.agg c');pure .skip:Sem Next).run P W
 | _=>(do Instr.storeAt 179 (.pointer (some ⟨k,0,none⟩)) (.agg c');pure .skip:Sem Next).run P W
def rO (P:Program)(p v:Value)(W:World):Result Next:=
 match p,v with
 | .pointer (some ⟨k,0,none⟩),.agg c'=>kG P (ai W k) k c' W
 | p,v=>(do Instr.storeAt 179 p v;pure .skip:Sem Next).run P W
theorem dX (c c':Array Value)(k:Nat)(h:c.size=262)(h':c'.size=262)(h1:kB c'=true):kG Tryz.prog (some (.cells c 179 (0,0))) k c' W=.ok .skip (W.setRow k c'):=by
 exact if_pos ⟨h,h',h1⟩
theorem aS (k:Nat)(c':Array Value):rO Tryz.prog (.pointer (some ⟨k,0,none⟩)) (.agg c') W=kG Tryz.prog (ai W k) k c' W:=rfl
theorem aZ:(execOp ρ { dst:=d,op:=.store 179 x y,type:=ty,pos:=pos,after:=af,guard:=gd }).run Tryz.prog W=rO Tryz.prog (ρ x) (ρ y) W:=by
 have e:(execOp ρ { dst:=d,op:=.store 179 x y,type:=ty,pos:=pos,after:=af,guard:=gd }).run Tryz.prog W=(do Instr.storeAt 179 (ρ x) (ρ y);pure .skip:Sem Next).run Tryz.prog W:=rfl
 rw[e]
 unfold rO
 split
 ·next k c' hx hy=>
  rw[hx,hy]
  unfold kG
  split
  ·next c hc=>
   split
   ·next h=>
    have:=run_storeVar_row (P:=Tryz.prog) W k 179 179 c c' hc (by rw[h.2.1];exact L3) (by omega) h.2.2
    simp[Sem.run_bind,Instr.storeAt,Instr.sureAddr,this]
   ·rfl
  ·rfl
 ·rfl
def dJ (P:Program)(parts:List (Nat × Value))(W:World):Result Next:=
 match P.built 179 parts with
 | some c=>.ok (.value (.agg c)) W
 | none=>(do pure (.value (<-Instr.build 179 parts.toArray)):Sem Next).run P W
theorem aY (parts:Array (Nat × Operand)):(execOp ρ { dst:=d,op:=.build 179 parts,type:=ty,pos:=pos,after:=af,guard:=gd }).run Tryz.prog W=dJ Tryz.prog (parts.toList.map fun p=>(p.1,ρ p.2)) W:=by
 have e:(execOp ρ { dst:=d,op:=.build 179 parts,type:=ty,pos:=pos,after:=af,guard:=gd }).run Tryz.prog W=(do pure (.value (<-Instr.build 179 (parts.map fun(i,x)=>(i,ρ x)))):Sem Next).run Tryz.prog W:=rfl
 have e2:(parts.map fun(i,x)=>(i,ρ x))=(parts.toList.map fun p=>(p.1,ρ p.2)).toArray:=by
  apply Array.ext';simp
 rw[e,e2]
 unfold dJ
 split
 ·next c hc=>
  have:=run_build (P:=Tryz.prog) W 179 (parts.toList.map fun p=>(p.1,ρ p.2)).toArray c (by simpa using hc)
  simp only[Sem.run_bind,this,Result.andThen_ok,Sem.run_pure]
 ·rfl
theorem bv:dJ Tryz.prog [] W=.ok (.value (.agg df)) W:=by
 have h:Tryz.prog.built 179 []=some df:=by kernel_rfl
 unfold dJ;rw[h]
theorem aT (k:Int):dJ Tryz.prog [(0,.int .i64 k)] W=.ok (.value (.agg (df.setIfInBounds 0 (.int .i64 k)))) W:=by
 have h:Tryz.prog.built 179 [(0,.int .i64 k)]=some (df.setIfInBounds 0 (.int .i64 k)):=by kernel_rfl
 unfold dJ;rw[h]
theorem aU (k t:Int):dJ Tryz.prog [(0,.int .i64 k),(3,.int .i64 t)] W=.ok (.value (.agg ((df.setIfInBounds 0 (.int .i64 k)).setIfInBounds 258 (.int .i64 t)))) W:=by
 have h:Tryz.prog.built 179 [(0,.int .i64 k),(3,.int .i64 t)]=some ((df.setIfInBounds 0 (.int .i64 k)).setIfInBounds 258 (.int .i64 t)):=by kernel_rfl
 unfold dJ;rw[h]
theorem aV (k a:Int)(n:ByteArray):dJ Tryz.prog [(0,.int .i64 k),(4,.string n),(5,.int .i64 a)] W=.ok (.value (.agg (((df.setIfInBounds 0 (.int .i64 k)).setIfInBounds 259 (.string n)).setIfInBounds 260 (.int .i64 a)))) W:=by
 have h:Tryz.prog.built 179 [(0,.int .i64 k),(4,.string n),(5,.int .i64 a)]=some (((df.setIfInBounds 0 (.int .i64 k)).setIfInBounds 259 (.string n)).setIfInBounds 260 (.int .i64 a)):=by kernel_rfl
 unfold dJ;rw[h]
theorem aW (k:Int)(p:Option Addr)(n c:Nat):dJ Tryz.prog [(0,.int .i64 k),(6,.slice p n c)] W=.ok (.value (.agg ((df.setIfInBounds 0 (.int .i64 k)).setIfInBounds 261 (.slice p n c)))) W:=by
 have h:Tryz.prog.built 179 [(0,.int .i64 k),(6,.slice p n c)]=some ((df.setIfInBounds 0 (.int .i64 k)).setIfInBounds 261 (.slice p n c)):=by kernel_rfl
 unfold dJ;rw[h]
theorem JH (c:List Value):∀(k:Nat) (base:Array Value),k+c.length<=base.size->
  ((c.zipIdx k).foldl (fun cs (x:Value × Nat)=>cs.setIfInBounds (0+x.2) x.1) base).toList=base.toList.take k++c++base.toList.drop (k+c.length):=by
 induction c with
 | nil=>intro k base h;simp
 | cons x r ih=>
  intro k base h
  simp only[List.length_cons]at h
  rw[List.zipIdx_cons,List.foldl_cons,ih (k+1) _ (by simp;omega)]
  simp only[Nat.zero_add,Array.toList_setIfInBounds]
  rw[List.take_set,List.drop_set_of_lt (by omega),List.take_succ_eq_append_getElem (by simpa using(by omega:k<base.size)),List.set_append_right _ _ (by simp;omega)]
  simp[Nat.min_eq_left (by omega:k<=base.size),Nat.add_assoc,Nat.add_comm 1]
def jT (P:Program)(v:Value)(W:World):Result Next:=
 match v with
 | .agg c=>if c.size=262 then .ok (.value (.slice (some ⟨W.heap.size,0,none⟩) 1 1)) (W.alloc (.cells c 179)) else (do pure (.value (<-Instr.buildSlice 87 1 #[(0,v)])):Sem Next).run P W
 | v=>(do pure (.value (<-Instr.buildSlice 87 1 #[(0,v)])):Sem Next).run P W
theorem aF:(execOp ρ { dst:=d,op:=.buildSlice 87 1 #[(0,x)],type:=ty,pos:=pos,after:=af,guard:=gd }).run Tryz.prog W=jT Tryz.prog (ρ x) W:=by
 have e:(execOp ρ { dst:=d,op:=.buildSlice 87 1 #[(0,x)],type:=ty,pos:=pos,after:=af,guard:=gd }).run Tryz.prog W=(do pure (.value (<-Instr.buildSlice 87 1 #[(0,ρ x)])):Sem Next).run Tryz.prog W:=by
  unfold execOp;simp only[List.map_toArray,List.map_cons,List.map_nil]
 rw[e]
 unfold jT
 split
 ·next c hv=>
  split
  ·next hc=>
   obtain⟨i,h1,h2,h3,h4⟩:=lg
   have Xj:(c.zipIdx.foldl (fun cs (x:Value × Nat)=>cs.setIfInBounds (0+x.2) x.1) ((Array.range 262).map (df[·%262]!)))=c:=by
    apply Array.ext'
    rw[<-Array.foldl_toList,Array.toList_zipIdx,JH c.toList 0 _ (by simp[hc])]
    simp[hc]
   have Xh:Instr.fill (fun i=>some (i*262,262)) ((Array.range 262).map (df[·%262]!)) [(0,Value.agg c)]=some c:=by
    have hs:(Value.agg c).cells.size=262:=hc
    have OJ:((Array.range 262).map (df[·%262]!)).size=262:=by simp
    simp only[Instr.fill,hs,OJ]
    simp only[Nat.zero_mul,ne_eq,not_true_eq_false,decide_false,Bool.false_or,gt_iff_lt,Nat.zero_add,Nat.lt_irrefl,Bool.false_eq_true,if_false]
    simpa [Value.cells] using Xj
   have hz:(Value.agg df).cells=df:=rfl
   have gh:(sizeOf 179).run Tryz.prog W=.ok 262 W:=by simp[sizeOf,typeInfo,h1,h3]
   have hzv:(zeroValue 179).run Tryz.prog W=.ok (.agg df) W:=by simp[zeroValue,typeInfo,h1,h2]
   have OE:(newRow 179 c).run Tryz.prog W=.ok ⟨W.heap.size,0,none⟩ (W.alloc (.cells c 179)):=by
    simp[newRow,newObj,Sem.run_bind];rfl
   simp only[hv,Instr.buildSlice,Sem.run_bind,run_underlying Tryz.underlying87,Result.andThen_ok,gh,Sem.run_pure]
   rw[if_neg (by decide),if_neg (by decide)]
   simp only[Sem.run_bind,hzv,Result.andThen_ok,Sem.run_pure,hz,cy,Nat.one_mul,Xh,OE]
  ·rw[hv]
 ·rfl
theorem aD (c:Array Value)(h:c.size=262):jT Tryz.prog (.agg c) W=.ok (.value (.slice (some ⟨W.heap.size,0,none⟩) 1 1)) (W.alloc (.cells c 179)):=by
 exact if_pos h
end
end Go.Proofs.YtagklnaaoclmhaaGreatDoor
namespace Go.Proofs.YtagklnaaoclmhaaGreatDoor
open Go.RowKit
section
variable (ρ:Operand->Value) (d:Option Nat) (x y z:Operand) (ty:TypeId) (pos:String) (af:Array Edge) (gd:Option (Nat × Bool)) (W:World)
end
end Go.Proofs.YtagklnaaoclmhaaGreatDoor
namespace Go.Proofs.YtagklnaaoclmhaaGreatDoor
open Go.RowKit
attribute [local go_sem ↓] bw aX aZ aY aF
attribute [local go_sem] bc aQ aS dX bv aT aU aV aW aD bf aK au aN
theorem NL (b base n:Nat)(s:ByteArray)(nv rv:Value)(g:Sc)(cs:Array Value)(xs:List Value)(w:World)(hG:aI w b s nv rv g)
  (hl:cs.size=262) (h1:∀v∈cs.toList,v.oneCell'=true) (hN:w.ownsRow base 179 262 nv n xs) (hn:n<=100000) (gV:base<=w.heap.size):
  Calls Tryz.prog 134 #[.pointer (some ⟨b,0,none⟩),.agg cs] w fun e w'=>e=.returned (.int .i64 (n:Int))/\∃fG,aI w' b s fG rv g/\w'.ownsRow base 179 262 fG (n+1) (xs++cs.toList)/\
   aa (fun k=>k=b\/nv.ownBlock=some k) w w'/\(∀k,fG.ownBlock=some k->nv.ownBlock=some k\/w.heap.size<=k):=by
 obtain⟨i0,iC,gH,iD,iz⟩:=lg
 obtain⟨c0,c1,c2,c3,c4,c5,c6⟩:=hG.cells
 have hf:=hG.frozen 0
 have lb:=hG.lt
 have Oo:0+262<=cs.size:=by omega
 have qz:cs.extract 0 (0+262)=cs:=by rw[<-hl,Nat.zero_add];simp
 have eW:b≠w.heap.size:=by omega
 have hN1:nv.ownBlock≠some b:=TU hN hG (by decide)
 have hN2:nv.ownBlock≠some w.heap.size:=fun e=>by have:=(hN.lt _ e).2;omega
 have kw:((w.alloc (.cells cs 179)).drew.alloc (.cells cs 179)).heap[w.heap.size+1]?=some (.cells cs 179 (0,0)):=by
  have:=heap_alloc_new (w.alloc (.cells cs 179)).drew (.cells cs 179)
  simpa using this
 go_enter Tryz.func134,Tryz.ntmps134
 go_wp2_with fail
 go_region_law
  ((
   refine step_append_lies _ (by rfl) _ _ _ (by rfl) base 179 i0 _ 262 336 Tryz.underlying87 iC gH iD iz cy (by omega) nv n xs (by rfl) (((hN.alloc _).alloc _).drew)
    ⟨w.heap.size+1,0,none⟩ 1 1 cs.toList (by rfl) (by simp[hl]) (World.news_of_block (t:=179) (fr:=(0,0)) kw) h1
    (by omega) (by simp[maxLen];omega) (by omega) (by simp;omega) (w.heap.size+2) (by simp) ?_;intro gg cap w1 hown1 hgrow dA bj
   have dd:aa (fun k=>nv.ownBlock=some k) w w1:=((((aa.refl _ w).alloc _).drew).alloc _).grown hgrow (fun k h _=>h)
   have iA:=hG.kept dd hN1
   obtain⟨d0,d1,d2,d3,d4,d5,d6⟩:=iA.cells
   have pA:=iA.frozen 0))
 all_goals
  have d0':(w1.setCell ⟨b,0,none⟩ (Value.slice (some ⟨gg,0,none⟩) (n+1) cap)).cell? ⟨b,0,none⟩=some (Value.slice (some ⟨gg,0,none⟩) (n+1) cap):=World.cell?_setCell_same _ _ _ d0
  go_wp2
  go_ret
  refine⟨by simp,_,iA.setNodes _,?_,(dd.mono (T:=fun k=>k=b\/nv.ownBlock=some k) (fun k _ h=>Or.inr h)).setCell (fun _=>Or.inl rfl) _,?_⟩
  ·exact dq hown1 (by
    intro e
    simp only[Value.ownBlock,Option.some.injEq]at e
    rcases dA with h | h
    ·exact hN1 (by rw[h,e])
    ·omega) _
  ·intro k hk
   simp only[Value.ownBlock,Option.some.injEq]at hk
   subst hk
   rcases dA with h | h
   ·exact Or.inl h
   ·exact Or.inr (by omega)
end Go.Proofs.YtagklnaaoclmhaaGreatDoor
namespace Go.Proofs.YtagklnaaoclmhaaGreatDoor
open Go.RowKit
structure aJ (c:Array Value)(N:Nd)(v:Value):Prop where
 size:c.size=262
 one:∀u∈c.toList,u.oneCell'=true
 kind:c[0]?=some (ee N.kind)
 text:c[1]?=some (.string (ba N.text))
 bits:∀i,i<256->c[2+i]?=some (.bool (wB N.rng i))
 term:c[258]?=some (ee N.term)
 name:c[259]?=some (.string (ba N.name))
 at_:c[260]?=some (ee N.at_)
 subs:c[261]?=some v
theorem PE (i:Nat)(h:i<256):df[2+i]?=some (.bool false):=MO _ _ _ _ 256 i h
theorem PF:∀u∈df.toList,u.oneCell'=true:=MP _ _ _ _ _ _ _ 256 rfl rfl rfl rfl rfl rfl rfl
theorem aJ.zero:aJ df cj (.slice none 0 0) where
 size:=cy
 one:=PF
 kind:=by kernel_rfl
 text:=by kernel_rfl
 bits:=fun i hi=>by rw[PE i hi];rfl
 term:=by kernel_rfl
 name:=by kernel_rfl
 at_:=by kernel_rfl
 subs:=by kernel_rfl
section
variable {c:Array Value} {N:Nd} {v:Value} (h:aJ c N v)
include h
theorem aJ.setKind (k:Nat):aJ (c.setIfInBounds 0 (.int .i64 (k:Int))) { N with kind:=k } v where
 size:=by simp[h.size]
 one:=lp h.one rfl
 kind:=by simp[Array.getElem?_setIfInBounds,h.size,ee]
 text:=by simp[Array.getElem?_setIfInBounds,h.text]
 bits:=fun i hi=>by rw[Array.getElem?_setIfInBounds_ne (by omega),h.bits i hi]
 term:=by simp[Array.getElem?_setIfInBounds,h.term]
 name:=by simp[Array.getElem?_setIfInBounds,h.name]
 at_:=by simp[Array.getElem?_setIfInBounds,h.at_]
 subs:=by simp[Array.getElem?_setIfInBounds,h.subs]
theorem aJ.setText (x:List UInt8):aJ (c.setIfInBounds 1 (.string (ba x))) { N with text:=x } v where
 size:=by simp[h.size]
 one:=lp h.one rfl
 kind:=by simp[Array.getElem?_setIfInBounds,h.kind]
 text:=by simp[Array.getElem?_setIfInBounds,h.size]
 bits:=fun i hi=>by rw[Array.getElem?_setIfInBounds_ne (by omega),h.bits i hi]
 term:=by simp[Array.getElem?_setIfInBounds,h.term]
 name:=by simp[Array.getElem?_setIfInBounds,h.name]
 at_:=by simp[Array.getElem?_setIfInBounds,h.at_]
 subs:=by simp[Array.getElem?_setIfInBounds,h.subs]
theorem aJ.setTerm (k:Nat):aJ (c.setIfInBounds 258 (.int .i64 (k:Int))) { N with term:=k } v where
 size:=by simp[h.size]
 one:=lp h.one rfl
 kind:=by simp[Array.getElem?_setIfInBounds,h.kind]
 text:=by simp[Array.getElem?_setIfInBounds,h.text]
 bits:=fun i hi=>by rw[Array.getElem?_setIfInBounds_ne (by omega),h.bits i hi]
 term:=by simp[Array.getElem?_setIfInBounds,h.size,ee]
 name:=by simp[Array.getElem?_setIfInBounds,h.name]
 at_:=by simp[Array.getElem?_setIfInBounds,h.at_]
 subs:=by simp[Array.getElem?_setIfInBounds,h.subs]
theorem aJ.setName (x:List UInt8):aJ (c.setIfInBounds 259 (.string (ba x))) { N with name:=x } v where
 size:=by simp[h.size]
 one:=lp h.one rfl
 kind:=by simp[Array.getElem?_setIfInBounds,h.kind]
 text:=by simp[Array.getElem?_setIfInBounds,h.text]
 bits:=fun i hi=>by rw[Array.getElem?_setIfInBounds_ne (by omega),h.bits i hi]
 term:=by simp[Array.getElem?_setIfInBounds,h.term]
 name:=by simp[Array.getElem?_setIfInBounds,h.size]
 at_:=by simp[Array.getElem?_setIfInBounds,h.at_]
 subs:=by simp[Array.getElem?_setIfInBounds,h.subs]
theorem aJ.setAt (k:Nat):aJ (c.setIfInBounds 260 (.int .i64 (k:Int))) { N with at_:=k } v where
 size:=by simp[h.size]
 one:=lp h.one rfl
 kind:=by simp[Array.getElem?_setIfInBounds,h.kind]
 text:=by simp[Array.getElem?_setIfInBounds,h.text]
 bits:=fun i hi=>by rw[Array.getElem?_setIfInBounds_ne (by omega),h.bits i hi]
 term:=by simp[Array.getElem?_setIfInBounds,h.term]
 name:=by simp[Array.getElem?_setIfInBounds,h.name]
 at_:=by simp[Array.getElem?_setIfInBounds,h.size,ee]
 subs:=by simp[Array.getElem?_setIfInBounds,h.subs]
theorem aJ.setSubs (l:List Nat)(p:Option Addr)(n m:Nat):aJ (c.setIfInBounds 261 (.slice p n m)) { N with subs:=l } (.slice p n m) where
 size:=by simp[h.size]
 one:=lp h.one rfl
 kind:=by simp[Array.getElem?_setIfInBounds,h.kind]
 text:=by simp[Array.getElem?_setIfInBounds,h.text]
 bits:=fun i hi=>by rw[Array.getElem?_setIfInBounds_ne (by omega),h.bits i hi]
 term:=by simp[Array.getElem?_setIfInBounds,h.term]
 name:=by simp[Array.getElem?_setIfInBounds,h.name]
 at_:=by simp[Array.getElem?_setIfInBounds,h.at_]
 subs:=by simp[Array.getElem?_setIfInBounds,h.size]
end
theorem aJ.mark {c:Array Value}{N:Nd}{v:Value}(h:aJ c N v)(a b:Nat)(hb:b<256):aJ (fC c a (b+1-a)) { N with rng:=N.rng++[(a,b)] } v:=by
 have hs:=h.size
 by_cases gu:a<=b+1
 ·have hg:=fun j=>xD c a j (b+1-a) (by omega)
  refine⟨by rw[fD];exact hs,Bq h.one _ _,?_,?_,fun i hi=>?_,?_,?_,?_,?_⟩
  ·rw[hg,if_neg (by omega)];exact h.kind
  ·rw[hg,if_neg (by omega)];exact h.text
  ·rw[hg]
   by_cases hr:2+a<=2+i/\2+i<2+(a+(b+1-a))
   ·rw[if_pos hr]
    simp[wB]
    omega
   ·rw[if_neg hr,h.bits i hi]
    simp[wB]
    omega
  ·rw[hg,if_neg (by omega)];exact h.term
  ·rw[hg,if_neg (by omega)];exact h.name
  ·rw[hg,if_neg (by omega)];exact h.at_
  ·rw[hg,if_neg (by omega)];exact h.subs
 ·rw[show b+1-a=0 by omega]
  refine⟨hs,h.one,h.kind,h.text,fun i hi=>?_,h.term,h.name,h.at_,h.subs⟩
  rw[show fC c a 0=c from rfl,h.bits i hi]
  simp[wB]
  omega
theorem aJ.marks {v:Value}(l:List (Nat × Nat)):∀{c:Array Value} {N:Nd},aJ c N v->(∀r∈l,r.2<256)->aJ (dW c l) { N with rng:=N.rng++l } v:=by
 induction l with
 | nil=>intro c N h _;simpa [Go.Proofs.YtagklnaaoclmhaaGreatDoor.dW] using h
 | cons r l ih=>
  intro c N h hl
  have h1:=h.mark r.1 r.2 (hl r (by simp))
  have h2:=ih h1 (fun x hx=>hl x (by simp[hx]))
  simpa [Go.Proofs.YtagklnaaoclmhaaGreatDoor.dW,List.append_assoc] using h2
def m6 (w:World)(base:Nat)(nv:Value)(U:Nat->Prop)(ns:List Nd):Prop:=
 ∃cs:List (Array Value),cs.length=ns.length/\w.ownsRow base 179 262 nv ns.length (cs.map Array.toList).flatten/\
  ∀(i:Nat) (c:Array Value) (N:Nd),cs[i]?=some c->ns[i]?=some N->∃v,aJ c N v/\w.ownsRow base 3 1 v N.subs.length (N.subs.map ee)/\∀k,v.ownBlock=some k->U k
structure RG (w:World)(base b:Nat)(s:ByteArray)(nv rv:Value)(U:Nat->Prop)(A:St):Prop where
 gis:aI w b s nv rv A.sc
 nodes:m6 w base nv U A.ns
 hb:base<=w.heap.size
 low:∀k,U k->k<w.heap.size
theorem m6.kept {S:Nat->Prop}{w w':World}{base:Nat}{nv:Value}{U:Nat->Prop}{ns:List Nd}(h:m6 w base nv U ns)(hk:aa S w w')(h1:∀k,nv.ownBlock=some k->¬S k)(h2:∀k c,U k->ai w k=some (.cells c 3 (0,0))->¬S k):m6 w' base nv U ns:=by
 obtain⟨cs,hl,ho,hn⟩:=h
 refine⟨cs,hl,az ho hk h1,fun i c N hc hN=>?_⟩
 obtain⟨v,hv,hr,hu⟩:=hn i c N hc hN
 exact⟨v,hv,az hr hk (fun k e=>by obtain⟨x,hx⟩:=ak hr e;exact h2 k x (hu k e) hx),hu⟩
theorem aI.obj {w:World}{b:Nat}{s:ByteArray}{nv rv:Value}{g:Sc}(h:aI w b s nv rv g):∃c,ai w b=some (.cells c 90 (0,0)):=⟨_,h⟩
theorem RG.nvb {w:World}{base b:Nat}{s:ByteArray}{nv rv:Value}{U:Nat->Prop}{A:St}(h:RG w base b s nv rv U A){k:Nat}(e:nv.ownBlock=some k):∃c,ai w k=some (.cells c 179 (0,0)):=by
 obtain⟨cs,_,ho,_⟩:=h.nodes
 exact ak ho e
theorem RG.turn {S:Nat->Prop}{w w':World}{base b:Nat}{s:ByteArray}{nv rv:Value}{U:Nat->Prop}{A:St}(h:RG w base b s nv rv U A)(hk:aa S w w'){g:Sc}(hg:aI w' b s nv rv g)(h1:∀k,nv.ownBlock=some k->¬S k)(h2:∀k c,U k->ai w k=some (.cells c 3 (0,0))->¬S k):RG w' base b s nv rv U { A with sc:=g }:=
 ⟨hg,h.nodes.kept hk h1 h2,Nat.le_trans h.hb hk.size,fun k x=>Nat.lt_of_lt_of_le (h.low k x) hk.size⟩
theorem RG.only {w w':World}{base b:Nat}{s:ByteArray}{nv rv:Value}{U:Nat->Prop}{A:St}(h:RG w base b s nv rv U A)(hk:aa (·=b) w w'){g:Sc}(hg:aI w' b s nv rv g):RG w' base b s nv rv U { A with sc:=g }:=by
 obtain⟨y,hy⟩:=h.gis.obj
 refine h.turn hk hg (fun k e hs=>?_) (fun k c _ e hs=>?_)
 ·subst hs
  obtain⟨x,hx⟩:=h.nvb e
  rw[hx]at hy;simp at hy
 ·subst hs
  rw[e]at hy;simp at hy
theorem RG.same {w:World}{base b:Nat}{s:ByteArray}{nv rv:Value}{U:Nat->Prop}{A:St}(h:RG w base b s nv rv U A)(n:Nat):RG (w.drewN n) base b s nv rv U A:=⟨h.gis.drewN n,by
 exact h.nodes.kept (S:=fun _=>False) ((aa.refl _ w).drewN n) (fun _ _=>id) (fun _ _ _ _=>id),h.hb,h.low⟩
theorem RG.alloc {w:World}{base b:Nat}{s:ByteArray}{nv rv:Value}{U:Nat->Prop}{A:St}(h:RG w base b s nv rv U A)(o:Obj):RG (w.alloc o) base b s nv rv U A:=
 ⟨h.gis.alloc o,h.nodes.kept (S:=fun _=>False) ((aa.refl _ w).alloc o) (fun _ _=>id) (fun _ _ _ _=>id),by simp;have:=h.hb;omega,fun k x=>by simp;have:=h.low k x;omega⟩
theorem Cz {w:World}{base b H:Nat}{s:ByteArray}{nv rv v:Value}{U:Nat->Prop}{A:St}{N:Nd}{c:Array Value}(h:RG w base b s nv rv U A)(hc:aJ c N v)(hv:w.ownsRow base 3 1 v N.subs.length (N.subs.map ee))(hH:∀k,v.ownBlock=some k->H<=k)(hw:H<=w.heap.size)(hn:A.ns.length<=100000):
  Calls Tryz.prog 134 #[.pointer (some ⟨b,0,none⟩),.agg c] w fun e w'=>e=.returned (.int .i64 ((aP A N).2:Int))/\∃fG U',RG w' base b s fG rv U' (aP A N).1/\dN H b nv fG U U' w w':=by
 obtain⟨cs,hl,ho,pH⟩:=h.nodes
 refine(NL b base A.ns.length s nv rv A.sc c _ w h.gis hc.size hc.one ho hn h.hb).mono ?_
 rintro e w' ⟨rfl,fG,hG,hO,hK,yI⟩
 refine⟨rfl,fG,fun k=>U k\/v.ownBlock=some k,⟨hG,⟨cs++[c],by simp[aP,hl],by simpa [aP] using hO,fun i c' N' si Il=>?_⟩,Nat.le_trans h.hb hK.size,fun k x=>Nat.lt_of_lt_of_le (x.elim (h.low k) (fun y=>(hv.lt k y).2)) hK.size⟩,⟨hK,fun k x=>(yI k x).imp id (fun y=>Nat.le_trans hw y),fun k x=>x.imp id (hH k)⟩⟩
 have Qo:∀u m xs,w.ownsRow base 3 1 u m xs->w'.ownsRow base 3 1 u m xs:=fun u m xs hu=>az hu hK (fun k e=>by
  obtain⟨x,hx⟩:=ak hu e
  rintro(hs | hs)
  ·subst hs
   obtain⟨y,hy⟩:=h.gis.obj
   rw[hx]at hy;simp at hy
  ·obtain⟨y,hy⟩:=ak ho hs
   rw[hx]at hy;simp at hy)
 dsimp only[aP]at Il
 by_cases hi:i<A.ns.length
 ·rw[List.getElem?_append_left (by omega)]at si
  rw[List.getElem?_append_left hi]at Il
  obtain⟨u,hu,hr,hU⟩:=pH i c' N' si Il
  exact⟨u,hu,Qo _ _ _ hr,fun k e=>Or.inl (hU k e)⟩
 ·rw[List.getElem?_append_right (by omega)]at si Il
  have iC:i-A.ns.length=0:=by
   rcases Nat.eq_zero_or_pos (i-A.ns.length) with h0 | h0
   ·exact h0
   ·rw[List.getElem?_eq_none (by simp;omega)]at Il;cases Il
  rw[iC]at Il
  rw[show i-cs.length=0 by omega]at si
  simp at si Il
  subst si Il
  exact⟨v,hc,Qo _ _ _ hv,fun k e=>Or.inr e⟩
theorem Cy {w:World}{base b:Nat}{s:ByteArray}{nv rv:Value}{U:Nat->Prop}{A:St}{N:Nd}{c:Array Value}(h:RG w base b s nv rv U A)(hc:aJ c N (.slice none 0 0))(hN:N.subs=[])(hn:A.ns.length<=100000):
  Calls Tryz.prog 134 #[.pointer (some ⟨b,0,none⟩),.agg c] w fun e w'=>e=.returned (.int .i64 ((aP A N).2:Int))/\∃fG U',RG w' base b s fG rv U' (aP A N).1/\dN w.heap.size b nv fG U U' w w':=
 Cz h hc (by rw[hN];exact World.ownsRow_nil _ _ _ _) (fun k e=>by cases e) (Nat.le_refl _) hn
theorem fy {w:World}{base b:Nat}{s:ByteArray}{nv rv:Value}{U:Nat->Prop}{A:St}{N:Nd}{c:Array Value}(x B:Nat)(h:RG w base b s nv rv U A)(hB:w.heap.size=B)(hc:aJ c N (.slice (some ⟨B,0,none⟩) 1 1))(hN:N.subs=[x])(hn:A.ns.length<=100000):
  Calls Tryz.prog 134 #[.pointer (some ⟨b,0,none⟩),.agg c] (w.alloc (.cells #[.int .i64 (x:Int)] 3)) fun e w'=>e=.returned (.int .i64 ((aP A N).2:Int))/\∃fG U',RG w' base b s fG rv U' (aP A N).1/\dN w.heap.size b nv fG U U' w w':=by
 subst hB
 refine(Cz (H:=w.heap.size) (h.alloc _) hc (by rw[hN];exact Pb h.hb x) (fun k e=>by simp only[Value.ownBlock,Option.some.injEq]at e;omega) (by simp) hn).mono ?_
 rintro e w' ⟨rfl,fG,U',hR,hS⟩
 exact⟨rfl,fG,U',hR,(dN.only ((aa.refl (·=b) w).alloc _)).join (Nat.le_refl _) hS⟩
def jS (m:Nat):List Value:=(List.range 41).map (fun k=>Value.bool (m.testBit k))
def jF (m:Nat):Array Value:=(jS m).toArray
theorem ml (m:Nat):(jS m).length=41:=by simp[jS]
theorem wQ (m:Nat):(jF m).size=41:=by simp[jF,jS]
theorem sw {W:World}{k:Nat}{c:Array Value}{t:Nat}(h:ai W k=some (.cells c t (0,0))){i n:Nat}(hn:i+n<=c.size):W.there k i n:=fun j hj=>by
 have h':W.heap[k]?=_:=h
 refine⟨?_,by simp[World.frozen?,h']⟩
 simp only[World.cell?,h']
 rw[Array.getElem?_eq_getElem (by omega)]
 rfl
def zl (c:Array Value)(o:Nat)(vs:List Value):Array Value:=(c.toList.take o++vs++c.toList.drop (o+vs.length)).toArray
theorem eu (b:Nat):∀(vs:List Value) (o:Nat) (w:World) (c:Array Value) (t:Nat),w.heap[b]?=some (.cells c t (0,0))->o+vs.length<=c.size->(w.setCells b o vs).heap[b]?=some (.cells (zl c o vs) t (0,0))
 | [],o,w,c,t,h,hl=>by
  rw[World.setCells,h]
  simp[zl]
 | v :: vs,o,w,c,t,h,hl=>by
  rw[World.setCells]
  have h1:=aj h o v
  simp only[List.length_cons]at hl
  rw[eu b vs (o+1) _ _ t h1 (by simp;omega)]
  congr 2
  unfold zl
  congr 1
  simp only[Array.toList_setIfInBounds,List.length_cons]
  rw[List.take_set,List.drop_set_of_lt (by omega),List.take_succ_eq_append_getElem (by simpa using(by omega:o<c.size)),List.set_append_right _ _ (by simp;omega)]
  simp[Nat.min_eq_left (by omega:o<=c.size),Nat.add_assoc,Nat.add_comm 1]
theorem dR (b:Nat):∀(vs:List Value) (o:Nat) (w:World),aa (fun k=>k=b) w (w.setCells b o vs)
 | [],o,w=>aa.refl _ _
 | v :: vs,o,w=>((aa.refl (fun k=>k=b) w).setCell (p:=⟨b,o,none⟩) (fun _=>rfl) v).trans (dR b vs (o+1) _)
def ML:Array Value:=(List.replicate 41 (Value.bool false)).toArray
theorem Tx:(Tryz.prog.info? 119).map (fun i=>(i.zero,i.size,i.bytes))=some (some (.agg ML),41,41):=by kernel_rfl
theorem L4:(Tryz.prog.info? 119).map (·.size)=some 41:=by kernel_rfl
theorem B3:ML.size=41:=by kernel_rfl
theorem yS:∃i,Tryz.prog.info? 119=some i/\i.zero=some (.agg ML)/\i.size=41/\i.bytes=41:=by
 have h:=Tx
 cases hi:Tryz.prog.info? 119 with
 | none=>rw[hi]at h;cases h
 | some i=>
  rw[hi]at h
  simp only[Option.map_some,Option.some.injEq,Prod.mk.injEq]at h
  exact⟨i,rfl,h.1,h.2.1,h.2.2⟩
section
variable (ρ:Operand->Value) (d:Option Nat) (x y z:Operand) (ty:TypeId) (pos:String) (af:Array Edge) (gd:Option (Nat × Bool)) (W:World)
def mL (P:Program)(o:Option Obj)(k i:Nat)(W:World):Result Next:=
 match o with
 | some (.cells c _ _)=>if i+41<=c.size then .ok (.value (.agg (c.extract i (i+41)))) W else (do pure (.value (<-Instr.loadAt 119 (.pointer (some ⟨k,i,none⟩)))):Sem Next).run P W
 | _=>(do pure (.value (<-Instr.loadAt 119 (.pointer (some ⟨k,i,none⟩)))):Sem Next).run P W
def uK (P:Program)(v:Value)(W:World):Result Next:=
 match v with
 | .pointer (some ⟨k,i,none⟩)=>mL P (ai W k) k i W
 | v=>(do pure (.value (<-Instr.loadAt 119 v)):Sem Next).run P W
theorem bp (c:Array Value)(e:TypeId)(fr:Nat × Nat)(k i:Nat)(h:i+41<=c.size):mL Tryz.prog (some (.cells c e fr)) k i W=.ok (.value (.agg (c.extract i (i+41)))) W:=by
 simp only[mL,h,if_true]
theorem bG (k i:Nat):uK Tryz.prog (.pointer (some ⟨k,i,none⟩)) W=mL Tryz.prog (ai W k) k i W:=rfl
theorem bU:(execOp ρ { dst:=d,op:=.load 119 x,type:=ty,pos:=pos,after:=af,guard:=gd }).run Tryz.prog W=uK Tryz.prog (ρ x) W:=by
 have e:(execOp ρ { dst:=d,op:=.load 119 x,type:=ty,pos:=pos,after:=af,guard:=gd }).run Tryz.prog W=(do pure (.value (<-Instr.loadAt 119 (ρ x))):Sem Next).run Tryz.prog W:=rfl
 rw[e]
 unfold uK
 split
 ·next k i hv=>
  rw[hv]
  unfold mL
  split
  ·next c t fr hc=>
   by_cases gh:i+41<=c.size
   ·rw[if_pos gh]
    have hr:=World.rangeAt_of_block (show W.heap[k]?=_ from hc) i 41
    have eI:(c.extract i (i+41)).toList.length=41:=by simp;omega
    have:=run_loadAt_mid (P:=Tryz.prog) W k i 119 _ _ hr Tryz.underlying119 rfl (by rw[eI];exact L4)
    simp only[Sem.run_bind,this,Result.andThen_ok,Sem.run_pure]
   ·rw[if_neg gh]
  ·rfl
 ·rfl
theorem bB:(execOp ρ { dst:=d,op:=.alloc 119,type:=ty,pos:=pos,after:=af,guard:=gd }).run Tryz.prog W=.ok (.value (.pointer (some ⟨W.heap.size,0,none⟩))) (W.alloc (.cells ML 119)):=by
 obtain⟨i,h1,h2,h3,h4⟩:=yS
 simp[execOp,Instr.alloc,zeroValue,typeInfo,h1,h2,newVar,newRow,newObj,Value.cells,Sem.run_bind]
 rfl
def nE (P:Program)(o:Option Obj)(k i:Nat)(c':Array Value)(W:World):Result Next:=
 match o with
 | some (.cells c _ (0,0))=>if i+41<=c.size/\c'.size=41/\kB c'=true then .ok .skip (W.setCells k i c'.toList) else (do Instr.storeAt 119 (.pointer (some ⟨k,i,none⟩)) (.agg c');pure .skip:Sem Next).run P W
 | _=>(do Instr.storeAt 119 (.pointer (some ⟨k,i,none⟩)) (.agg c');pure .skip:Sem Next).run P W
def rQ (P:Program)(p v:Value)(W:World):Result Next:=
 match p,v with
 | .pointer (some ⟨k,i,none⟩),.agg c'=>nE P (ai W k) k i c' W
 | p,v=>(do Instr.storeAt 119 p v;pure .skip:Sem Next).run P W
theorem bi (c c':Array Value)(t k i:Nat)(h:i+41<=c.size)(h':c'.size=41)(h1:kB c'=true):nE Tryz.prog (some (.cells c t (0,0))) k i c' W=.ok .skip (W.setCells k i c'.toList):=by
 exact if_pos ⟨h,h',h1⟩
theorem bu (k i:Nat)(c':Array Value):rQ Tryz.prog (.pointer (some ⟨k,i,none⟩)) (.agg c') W=nE Tryz.prog (ai W k) k i c' W:=rfl
theorem bF:(execOp ρ { dst:=d,op:=.store 119 x y,type:=ty,pos:=pos,after:=af,guard:=gd }).run Tryz.prog W=rQ Tryz.prog (ρ x) (ρ y) W:=by
 have e:(execOp ρ { dst:=d,op:=.store 119 x y,type:=ty,pos:=pos,after:=af,guard:=gd }).run Tryz.prog W=(do Instr.storeAt 119 (ρ x) (ρ y);pure .skip:Sem Next).run Tryz.prog W:=rfl
 rw[e]
 unfold rQ
 split
 ·next k i c' hx hy=>
  rw[hx,hy]
  unfold nE
  split
  ·next c t hc=>
   split
   ·next h=>
    have:=run_storeAt_mid (P:=Tryz.prog) W k i 119 c' (sw hc (by rw[h.2.1];exact h.1)) (by rw[h.2.1];exact L4) h.2.2
    simp[Sem.run_bind,this]
   ·rfl
  ·rfl
 ·rfl
end
def xW:Array Value:=(Value.bool false :: .bool false :: .int .i64 0 :: .int .i64 0 :: (List.replicate 41 (.bool false)++[.int .i64 0])).toArray
theorem Ty:(Tryz.prog.info? 121).map (fun i=>(i.zero,i.size,i.bytes))=some (some (.agg xW),46,80):=by kernel_rfl
theorem u6:(Tryz.prog.info? 121).map (·.size)=some 46:=by kernel_rfl
theorem kJ:xW.size=46:=by kernel_rfl
theorem pK:∃i,Tryz.prog.info? 121=some i/\i.zero=some (.agg xW)/\i.size=46/\i.bytes=80:=by
 have h:=Ty
 cases hi:Tryz.prog.info? 121 with
 | none=>rw[hi]at h;cases h
 | some i=>
  rw[hi]at h
  simp only[Option.map_some,Option.some.injEq,Prod.mk.injEq]at h
  exact⟨i,rfl,h.1,h.2.1,h.2.2⟩
section
variable (ρ:Operand->Value) (d:Option Nat) (x y z:Operand) (ty:TypeId) (pos:String) (af:Array Edge) (gd:Option (Nat × Bool)) (W:World)
def mM (P:Program)(o:Option Obj)(k i:Nat)(W:World):Result Next:=
 match o with
 | some (.cells c _ _)=>if i+46<=c.size then .ok (.value (.agg (c.extract i (i+46)))) W else (do pure (.value (<-Instr.loadAt 121 (.pointer (some ⟨k,i,none⟩)))):Sem Next).run P W
 | _=>(do pure (.value (<-Instr.loadAt 121 (.pointer (some ⟨k,i,none⟩)))):Sem Next).run P W
def uL (P:Program)(v:Value)(W:World):Result Next:=
 match v with
 | .pointer (some ⟨k,i,none⟩)=>mM P (ai W k) k i W
 | v=>(do pure (.value (<-Instr.loadAt 121 v)):Sem Next).run P W
theorem bJ (c:Array Value)(e:TypeId)(fr:Nat × Nat)(k i:Nat)(h:i+46<=c.size):mM Tryz.prog (some (.cells c e fr)) k i W=.ok (.value (.agg (c.extract i (i+46)))) W:=by
 simp only[mM,h,if_true]
theorem bX (k i:Nat):uL Tryz.prog (.pointer (some ⟨k,i,none⟩)) W=mM Tryz.prog (ai W k) k i W:=rfl
theorem cC:(execOp ρ { dst:=d,op:=.load 121 x,type:=ty,pos:=pos,after:=af,guard:=gd }).run Tryz.prog W=uL Tryz.prog (ρ x) W:=by
 have e:(execOp ρ { dst:=d,op:=.load 121 x,type:=ty,pos:=pos,after:=af,guard:=gd }).run Tryz.prog W=(do pure (.value (<-Instr.loadAt 121 (ρ x))):Sem Next).run Tryz.prog W:=rfl
 rw[e]
 unfold uL
 split
 ·next k i hv=>
  rw[hv]
  unfold mM
  split
  ·next c t fr hc=>
   by_cases gh:i+46<=c.size
   ·rw[if_pos gh]
    have hr:=World.rangeAt_of_block (show W.heap[k]?=_ from hc) i 46
    have eI:(c.extract i (i+46)).toList.length=46:=by simp;omega
    have:=run_loadAt_mid (P:=Tryz.prog) W k i 121 _ _ hr Tryz.underlying121 rfl (by rw[eI];exact u6)
    simp only[Sem.run_bind,this,Result.andThen_ok,Sem.run_pure]
   ·rw[if_neg gh]
  ·rfl
 ·rfl
theorem bT:(execOp ρ { dst:=d,op:=.alloc 121,type:=ty,pos:=pos,after:=af,guard:=gd }).run Tryz.prog W=.ok (.value (.pointer (some ⟨W.heap.size,0,none⟩))) (W.alloc (.cells xW 121)):=by
 obtain⟨i,h1,h2,h3,h4⟩:=pK
 simp[execOp,Instr.alloc,zeroValue,typeInfo,h1,h2,newVar,newRow,newObj,Value.cells,Sem.run_bind]
 rfl
def nF (P:Program)(o:Option Obj)(k i:Nat)(c':Array Value)(W:World):Result Next:=
 match o with
 | some (.cells c _ (0,0))=>if i+46<=c.size/\c'.size=46/\kB c'=true then .ok .skip (W.setCells k i c'.toList) else (do Instr.storeAt 121 (.pointer (some ⟨k,i,none⟩)) (.agg c');pure .skip:Sem Next).run P W
 | _=>(do Instr.storeAt 121 (.pointer (some ⟨k,i,none⟩)) (.agg c');pure .skip:Sem Next).run P W
def rR (P:Program)(p v:Value)(W:World):Result Next:=
 match p,v with
 | .pointer (some ⟨k,i,none⟩),.agg c'=>nF P (ai W k) k i c' W
 | p,v=>(do Instr.storeAt 121 p v;pure .skip:Sem Next).run P W
theorem bx (c c':Array Value)(t k i:Nat)(h:i+46<=c.size)(h':c'.size=46)(h1:kB c'=true):nF Tryz.prog (some (.cells c t (0,0))) k i c' W=.ok .skip (W.setCells k i c'.toList):=by
 exact if_pos ⟨h,h',h1⟩
theorem bK (k i:Nat)(c':Array Value):rR Tryz.prog (.pointer (some ⟨k,i,none⟩)) (.agg c') W=nF Tryz.prog (ai W k) k i c' W:=rfl
theorem bV:(execOp ρ { dst:=d,op:=.store 121 x y,type:=ty,pos:=pos,after:=af,guard:=gd }).run Tryz.prog W=rR Tryz.prog (ρ x) (ρ y) W:=by
 have e:(execOp ρ { dst:=d,op:=.store 121 x y,type:=ty,pos:=pos,after:=af,guard:=gd }).run Tryz.prog W=(do Instr.storeAt 121 (ρ x) (ρ y);pure .skip:Sem Next).run Tryz.prog W:=rfl
 rw[e]
 unfold rR
 split
 ·next k i c' hx hy=>
  rw[hx,hy]
  unfold nF
  split
  ·next c t hc=>
   split
   ·next h=>
    have:=run_storeAt_mid (P:=Tryz.prog) W k i 121 c' (sw hc (by rw[h.2.1];exact h.1)) (by rw[h.2.1];exact u6) h.2.2
    simp[Sem.run_bind,this]
   ·rfl
  ·rfl
 ·rfl
end
section
variable (ρ:Operand->Value) (d:Option Nat) (x y z:Operand) (ty:TypeId) (pos:String) (af:Array Edge) (gd:Option (Nat × Bool)) (W:World)
theorem bD:(execOp ρ { dst:=d,op:=.build 119 #[],type:=ty,pos:=pos,after:=af,guard:=gd }).run Tryz.prog W=.ok (.value (.agg ML)) W:=by
 have e:(execOp ρ { dst:=d,op:=.build 119 #[],type:=ty,pos:=pos,after:=af,guard:=gd }).run Tryz.prog W=(do pure (.value (<-Instr.build 119 ((#[]:Array (Nat × Operand)).map fun(i,x)=>(i,ρ x)))):Sem Next).run Tryz.prog W:=rfl
 have e2:((#[]:Array (Nat × Operand)).map fun(i,x)=>(i,ρ x))=#[]:=by simp
 rw[e,e2]
 have:=run_build (P:=Tryz.prog) W 119 #[] ML (by kernel_rfl)
 simp only[Sem.run_bind,this,Result.andThen_ok,Sem.run_pure]
end
theorem MM:kB ML=true:=by kernel_rfl
theorem B1:ML.toList=jS 0:=by kernel_rfl
end Go.Proofs.YtagklnaaoclmhaaGreatDoor
