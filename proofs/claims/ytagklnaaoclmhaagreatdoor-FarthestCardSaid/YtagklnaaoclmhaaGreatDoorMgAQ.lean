import Derived.Test.YtagklnaaoclmhaaGreatDoorMgAG
import Derived.Test.YtagklnaaoclmhaaGreatDoorMgAD
import Derived.Test.YtagklnaaoclmhaaGreatDoorMgAP
set_option linter.unusedSimpArgs false
set_option linter.unusedVariables false
namespace Go.Proofs.YtagklnaaoclmhaaGreatDoor
open Go.RowKit

/-- The results that a result is made of. m: the row that is still written into. -/
def InAt (w : World) (m : Option Nat) (v : Value) (IB : List Nat) : Prop :=
  ∃ p c, v = .slice p IB.length c ∧ (IB = [] ∨ ∃ g cur, p = some ⟨g, 0, none⟩ ∧ m ≠ some g ∧ w.heap[g]? = some (.cells cur 147 (0, 0)) ∧ ∀ i (h : i < IB.length), cur[i]? = some (ptB' IB[i]))
/-- A result in memory. -/
inductive RsAt (w : World) (m : Option Nat) : Nat → Rs → Prop
  | mk {b rule from_ cnt : Nat} {to : Int} {inner : List Rs} {v : Value} {IB : List Nat}
      (blk : w.heap[b]? = some (.cells #[.int .i64 (rule : Int), .int .i64 (from_ : Int), .int .i64 to, .int .i64 (cnt : Int), v] 229 (0, 0)))
      (row : InAt w m v IB) (len : IB.length = inner.length)
      (sub : ∀ i (h : i < IB.length) (h' : i < inner.length), RsAt w m IB[i] inner[i]) : RsAt w m b (.mk rule from_ to cnt inner)
theorem RsAt.kept {w w' : World} {m m' : Option Nat} {T : Nat → Prop} (hk : Kept T w w') (h1 : ∀ j c, w.heap[j]? = some (.cells c 229 (0, 0)) → ¬ T j) (h2 : ∀ j c, w.heap[j]? = some (.cells c 147 (0, 0)) → m ≠ some j → ¬ T j ∧ m' ≠ some j) {b : Nat} {r : Rs} (h : RsAt w m b r) : RsAt w' m' b r := by
  induction h with
  | @mk b rule from_ cnt to inner v IB blk row len sub ih =>
    obtain ⟨p, c, hv, hrow⟩ := row
    refine .mk (v := v) (IB := IB) ?_ ⟨p, c, hv, ?_⟩ len (fun i h h' => ih i h h')
    · rw [hk.block b (objAt_lt (show objAt w b = _ from blk)) (h1 _ _ blk)]; exact blk
    · rcases hrow with e | ⟨g, cur, e1, e2, e3, e4⟩
      · exact .inl e
      · obtain ⟨k1, k2⟩ := h2 _ _ e3 e2
        refine .inr ⟨g, cur, e1, k2, ?_, e4⟩
        rw [hk.block g (objAt_lt (show objAt w g = _ from e3)) k1]; exact e3
theorem RsAt.cells {w : World} {m : Option Nat} {b : Nat} {r : Rs} (h : RsAt w m b r) : w.cell? ⟨b, 0, none⟩ = some (.int .i64 (r.rule : Int)) ∧ w.cell? ⟨b, 1, none⟩ = some (.int .i64 (r.from_ : Int)) ∧ w.cell? ⟨b, 2, none⟩ = some (.int .i64 r.to) ∧ w.cell? ⟨b, 3, none⟩ = some (.int .i64 (r.cnt : Int)) := by
  cases h with
  | mk blk _ _ _ => refine ⟨?_, ?_, ?_, ?_⟩ <;> simp [World.cell?, blk, Rs.rule, Rs.from_, Rs.to, Rs.cnt]
theorem RsAt.lt {w : World} {m : Option Nat} {b : Nat} {r : Rs} (h : RsAt w m b r) : b < w.heap.size := lt_cell h.cells.1

/-- What a walk writes into. -/
def Wr (b0 : Nat) (m : Option Nat) (w : World) (k : Nat) : Prop := b0 ≤ k ∧ ∀ c t f, w.heap[k]? = some (.cells c t f) → (t = 159 ∨ t = 311 ∨ t = 218 ∨ t = 280 ∨ t = 275 ∨ t = 270 ∨ t = 271) ∨ t = 147 ∧ m = some k
structure Fr (b0 : Nat) (m m' : Option Nat) (w w' : World) : Prop where
  kept : Kept (Wr b0 m w) w w'
  own : ∀ k, m' = some k → m = some k ∨ w.heap.size ≤ k
theorem Fr.refl (b0 : Nat) (m : Option Nat) (w : World) : Fr b0 m m w w := ⟨Kept.refl _ _, fun _ h => .inl h⟩
theorem Fr.trans {b0 : Nat} {m m1 m2 : Option Nat} {w w1 w2 : World} (h : Fr b0 m m1 w w1) (k : Fr b0 m1 m2 w1 w2) : Fr b0 m m2 w w2 := by
  refine ⟨h.kept.then k.kept (fun i hi hx => ?_), fun j hj => ?_⟩
  · by_cases hw : Wr b0 m w i
    · exact hw
    · refine ⟨hx.1, fun c t f hc => ?_⟩
      have := hx.2 c t f (by rw [h.kept.block i hi hw]; exact hc)
      rcases this with h1 | ⟨h1, h2⟩
      · exact .inl h1
      · rcases h.own i h2 with h3 | h3
        · exact .inr ⟨h1, h3⟩
        · omega
  · rcases k.own j hj with h1 | h1
    · exact h.own j h1
    · exact .inr (Nat.le_trans h.kept.size h1)
theorem Fr.of {b0 : Nat} {m : Option Nat} {w w' : World} {T : Nat → Prop} (h : Kept T w w') (hT : ∀ k, k < w.heap.size → T k → Wr b0 m w k) : Fr b0 m m w w' := ⟨h.mono hT, fun _ h => .inl h⟩
theorem Fr.new {b0 : Nat} {m : Option Nat} {w w' : World} (h : Kept (fun _ => False) w w') : Fr b0 m m w w' := Fr.of h (fun _ _ x => x.elim)
theorem Fr.mem {b0 : Nat} {m : Option Nat} {w w' : World} (h : Kept (Mw b0 w) w w') : Fr b0 m m w w' := Fr.of h (fun k _ hk => ⟨hk.1, fun c t f hc => .inl (by
  rcases hk.2 c t f hc with h | h | h | h | h
  · exact .inr (.inr (.inl h))
  · exact .inr (.inr (.inr (.inl h)))
  · exact .inr (.inr (.inr (.inr (.inl h))))
  · exact .inr (.inr (.inr (.inr (.inr (.inl h)))))
  · exact .inr (.inr (.inr (.inr (.inr (.inr h))))))⟩)
theorem Wr.ty {b0 : Nat} {m : Option Nat} {w : World} {k : Nat} {c : Array Value} {t : TypeId} {f : Nat × Nat} (h : Wr b0 m w k) (hc : w.heap[k]? = some (.cells c t f)) : (t = 159 ∨ t = 311 ∨ t = 218 ∨ t = 280 ∨ t = 275 ∨ t = 270 ∨ t = 271) ∨ t = 147 ∧ m = some k := h.2 c t f hc
theorem RsAt.fr {b0 : Nat} {m m' : Option Nat} {w w' : World} (hf : Fr b0 m m' w w') {b : Nat} {r : Rs} (h : RsAt w m b r) : RsAt w' m' b r :=
  h.kept hf.kept (fun j c hj hw => by
    rcases hw.ty hj with h1 | ⟨h1, _⟩
    · rcases h1 with h1 | h1 | h1 | h1 | h1 | h1 | h1 <;> exact absurd h1 (by decide)
    · exact absurd h1 (by decide)) (fun j c hj hm => ⟨fun hw => by
    rcases hw.ty hj with h1 | ⟨_, h2⟩
    · rcases h1 with h1 | h1 | h1 | h1 | h1 | h1 | h1 <;> exact absurd h1 (by decide)
    · exact hm h2, fun e => by
    rcases hf.own j e with h1 | h1
    · exact hm h1
    · have := objAt_lt (show objAt w j = _ from hj); omega⟩)
theorem Gm.fr {b0 : Nat} {m m' : Option Nat} {w w' : World} (hf : Fr b0 m m' w w') {base gb : Nat} {rv : Value} {P : List Nat} {ρ : Nat → Int} {rs : List Rl} {ns : List Nd} (h : Gm w base gb rv P ρ rs ns) : Gm w' base gb rv P ρ rs ns :=
  h.kept hf.kept (fun j c t hw hj => by
    rcases hw.ty hj with h1 | ⟨h1, _⟩
    · rcases h1 with h1 | h1 | h1 | h1 | h1 | h1 | h1 <;> subst h1 <;> decide
    · subst h1; decide)

structure Wi where
  wk : Nat
  gd : Nat
  gb : Nat
  mb : Nat
  kb : Nat
  b0 : Nat
  inp : ByteArray
  bg : Nat
  rv : Value
  P : List Nat
  ρ : Nat → Int
  L : List Nat
  K : Wc
/-- What of a walk never changes. -/
structure Ic (I : Wi) : Prop where
  len : I.K.len = I.inp.size
  l60 : I.inp.size ≤ 60
  bt : I.K.b = byteAt I.inp
  most : I.K.most ≤ 20000
  num : I.K.inp ≤ 20
  wf : WfR I.K.ns I.K.rs
  ru : ∀ i, i < I.K.ns.length → (nth I.K.ns i).kind = 3 → I.ρ i = (ruI I.K.rs (nth I.K.ns i) : Int) ∧ ruI I.K.rs (nth I.K.ns i) < I.K.rs.length
  ch : ∀ r, r < I.K.rs.length → (nth I.K.ns (isI I.K.rs r)).kind = 4
  term : ∀ i, i < I.K.ns.length → (nth I.K.ns i).term < 40
  br : ∀ i, i < I.K.ns.length → I.P.getD i 0 ∈ I.L → I.L[I.K.br i]? = some (I.P.getD i 0)
  nsl : I.K.ns.length ≤ 5000
  low : I.b0 ≤ I.wk ∧ I.b0 ≤ I.kb
def kn1 : Option Int → List Value
  | none => [.bool false, .int .i64 0]
  | some t => [.bool true, .int .i64 t]
def knC (l : List (Option Int)) : Array Value := (l.flatMap kn1).toArray
/-- A walk in memory. -/
structure WkAt (I : Wi) (mv : Value) (s : Wt) (w : World) : Prop where
  blk : w.heap[I.wk]? = some (.cells #[ptB' I.gd, .int .i64 (I.K.inp : Int), .string I.inp, .int .i64 (s.cnt : Int), .int .i64 (s.dn : Int), mv, .int .i64 s.far.1, .int .u64 (s.far.2 : Int), .slice (some ⟨I.kb, 0, none⟩) s.kn.length s.kn.length] 159 (0, 0))
  gnd : w.heap[I.gd]? = some (.cells #[ptB' I.gb, .int .i64 (I.K.most : Int), ptB' I.mb] 152 (0, 0))
  gm : Gm w I.bg I.gb I.rv I.P I.ρ I.K.rs I.K.ns
  brk : w.cell? ⟨I.gb, 1, none⟩ = some (.int .i64 (I.L.length : Int)) ∧ Bk w I.P I.L I.K.ns
  mem : ∃ eb ob EL, MmI w I.b0 I.mb eb ob EL I.K.mc (RsAt w mv.ownBlock) s.mem
  mt : ∃ MB, w.ownsRow I.b0 147 1 mv MB.length (MB.map ptB') ∧ F2 (RsAt w mv.ownBlock) MB s.mt
  kn : w.heap[I.kb]? = some (.cells (knC s.kn) 311 (0, 0))
  sane : Sane I.K s
  knl : s.kn.length = I.L.length * (I.K.len + 1)
  far1 : -1 ≤ s.far.1 ∧ s.far.1 ≤ (I.K.len : Int)
  far2 : s.far.2 < 2 ^ 40
theorem MmI.rel {w : World} {b0 mb eb ob : Nat} {EL : List (Ky × Nat)} {C : Mc} {R R' : Nat → Rs → Prop} {M : Ms} (h : MmI w b0 mb eb ob EL C R M) (hR : ∀ b r, R b r → R' b r) : MmI w b0 mb eb ob EL C R' M :=
  ⟨h.ok, h.blk, h.map, h.keys, h.nd, h.in_, fun i h1 h2 => by obtain ⟨rb, h3, h4⟩ := h.ent i h1 h2; exact ⟨rb, h3, hR _ _ h4⟩, h.low, h.no0, h.dir, h.old, h.hits⟩
theorem Bk.cellsKept {w w' : World} {P L : List Nat} {ns : List Nd} (h : Bk w P L ns) (hc : ∀ x ∈ P, w'.heap[x]? = w.heap[x]?) : Bk w' P L ns := by
  refine ⟨fun k hk => ⟨(h.num k hk).1, ?_⟩, h.sub⟩
  rw [← (h.num k hk).2]
  simp only [World.cell?, hc _ (h.num k hk).1]
/-- Old blocks that are no matter of the walk's lie as they lay. -/
theorem WkAt.part_same {I : Wi} {mv : Value} {s : Wt} {w w' : World} (h : WkAt I mv s w) {m' : Option Nat} (hf : Fr I.b0 mv.ownBlock m' w w') : (∀ x ∈ I.P, w'.heap[x]? = w.heap[x]?) ∧ w'.heap[I.gb]? = w.heap[I.gb]? ∧ w'.heap[I.gd]? = w.heap[I.gd]? := by
  have hno : ∀ (j : Nat) (c : Array Value) (t : TypeId), w.heap[j]? = some (Obj.cells c t (0, 0)) → (t = 203 ∨ t = 150 ∨ t = 152) → w'.heap[j]? = w.heap[j]? := by
    intro j c t hj ht
    refine hf.kept.block j (objAt_lt (show objAt w j = _ from hj)) (fun hw => ?_)
    rcases hw.ty hj with h1 | ⟨h1, _⟩
    · rcases ht with ht | ht | ht <;> subst ht <;> rcases h1 with h1 | h1 | h1 | h1 | h1 | h1 | h1 <;> exact absurd h1 (by decide)
    · rcases ht with ht | ht | ht <;> subst ht <;> exact absurd h1 (by decide)
  refine ⟨fun x hx => ?_, ?_, hno _ _ _ h.gnd (.inr (.inr rfl))⟩
  · obtain ⟨i, hi, rfl⟩ := List.getElem_of_mem hx
    obtain ⟨z, vR, vP, h1, _⟩ := h.gm.ar.part i (by rw [← h.gm.ar.len]; exact hi)
    have he : I.P.getD i 0 = I.P[i] := by simp [List.getD, List.getElem?_eq_getElem hi]
    rw [he] at h1
    exact hno _ _ _ h1 (.inl rfl)
  · obtain ⟨z, hz⟩ := h.gm.gram
    exact hno _ _ _ hz (.inr (.inl rfl))
/-- What is no block of the memory's. -/
def NoM (w : World) (S : Nat → Prop) : Prop := ∀ j, S j → ∃ c t, w.heap[j]? = some (.cells c t (0, 0)) ∧ t ≠ 218 ∧ t ≠ 280 ∧ t ≠ 275 ∧ t ≠ 270 ∧ t ≠ 271
theorem MmI.kept {S : Nat → Prop} {w w' : World} {b0 mb eb ob : Nat} {EL : List (Ky × Nat)} {C : Mc} {R : Nat → Rs → Prop} {M : Ms} (h : MmI w b0 mb eb ob EL C R M) (hk : Kept S w w') (hS : NoM w S) : MmI w' b0 mb eb ob EL C R M := by
  have hno : ∀ (j : Nat) (c : Array Value) (t : TypeId), w.heap[j]? = some (Obj.cells c t (0, 0)) → (t = 218 ∨ t = 280 ∨ t = 275 ∨ t = 270 ∨ t = 271) → ¬ S j := by
    intro j c t hj ht hs
    obtain ⟨c', t', h1, h2, h3, h4, h5, h6⟩ := hS j hs
    rw [hj] at h1
    simp at h1
    rcases ht with e | e | e | e | e
    · exact h2 (by rw [← h1.2, e])
    · exact h3 (by rw [← h1.2, e])
    · exact h4 (by rw [← h1.2, e])
    · exact h5 (by rw [← h1.2, e])
    · exact h6 (by rw [← h1.2, e])
  refine ⟨h.ok, ?_, h.map.same (hk.block eb h.map.lt (fun x => ?_)), h.keys, h.nd, h.in_, fun i hi hi' => ?_, h.low, h.no0, fun hp => (h.dir hp).kept hk (fun j c t f hc ht x => ?_), fun hp => ?_, h.hits⟩
  · rw [hk.block mb (objAt_lt (show objAt w mb = _ from h.blk)) (hno _ _ _ h.blk (.inl rfl))]; exact h.blk
  · obtain ⟨es, c, hm, _⟩ := h.map
    obtain ⟨c', t', h1, _⟩ := hS eb x
    rw [hm] at h1; simp at h1
  · obtain ⟨rb, h1, h2⟩ := h.ent i hi hi'
    refine ⟨rb, h1.same (hk.block _ h1.lt ?_), h2⟩
    obtain ⟨v3, v4, h3⟩ := h1
    exact hno _ _ _ h3 (.inr (.inl rfl))
  · obtain ⟨c', t', h1, h2, h3, h4, h5, h6⟩ := hS j x
    rw [hc] at h1
    simp at h1
    rcases ht with e | e
    · exact h5 (by rw [← h1.2.1, e])
    · exact h6 (by rw [← h1.2.1, e])
  · obtain ⟨c0, h0⟩ := (h.old hp).ty
    refine (h.old hp).kept hk (hno _ _ _ h0 (.inr (.inr (.inl rfl)))) (fun e he => ?_)
    obtain ⟨rb, v3, v4, h3⟩ := h.en_at he
    exact hno _ _ _ h3 (.inr (.inl rfl))
/-- The walk behind a change of other blocks than its own and the memory's. -/
theorem WkAt.turn {I : Wi} {mv mv' : Value} {s s' : Wt} {w w' : World} {S : Nat → Prop} (h : WkAt I mv s w) (hk : Kept S w w') (hf : Fr I.b0 mv.ownBlock mv'.ownBlock w w') (hS : NoM w S)
    (hblk : w'.heap[I.wk]? = some (.cells #[ptB' I.gd, .int .i64 (I.K.inp : Int), .string I.inp, .int .i64 (s'.cnt : Int), .int .i64 (s'.dn : Int), mv', .int .i64 s'.far.1, .int .u64 (s'.far.2 : Int), .slice (some ⟨I.kb, 0, none⟩) s'.kn.length s'.kn.length] 159 (0, 0)))
    (hmem : s'.mem = s.mem) (hmt : ∃ MB, w'.ownsRow I.b0 147 1 mv' MB.length (MB.map ptB') ∧ F2 (RsAt w' mv'.ownBlock) MB s'.mt) (hkn : w'.heap[I.kb]? = some (.cells (knC s'.kn) 311 (0, 0))) (hs : Sane I.K s') (hknl : s'.kn.length = s.kn.length) (hf1 : -1 ≤ s'.far.1 ∧ s'.far.1 ≤ (I.K.len : Int)) (hf2 : s'.far.2 < 2 ^ 40) : WkAt I mv' s' w' := by
  obtain ⟨p1, p2, p3⟩ := h.part_same hf
  obtain ⟨eb, ob, EL, hm⟩ := h.mem
  refine ⟨hblk, by rw [p3]; exact h.gnd, h.gm.fr hf, ⟨?_, h.brk.2.cellsKept p1⟩, ⟨eb, ob, EL, ?_⟩, hmt, hkn, hs, by rw [hknl]; exact h.knl, hf1, hf2⟩
  · have := h.brk.1
    simp only [World.cell?, p2] at this ⊢
    exact this
  · rw [hmem]
    exact (hm.kept hk hS).rel (fun b r hr => hr.fr hf)
theorem WkAt.wkK {I : Wi} {mv : Value} {s : Wt} {w : World} (h : WkAt I mv s w) : NoM w (· = I.wk) := by
  intro j e
  have e' : j = I.wk := e
  subst e'
  exact ⟨_, _, h.blk, by decide, by decide, by decide, by decide, by decide⟩
theorem WkAt.wkF {I : Wi} {mv : Value} {s : Wt} {w w' : World} (h : WkAt I mv s w) (hI : Ic I) (hk : Kept (· = I.wk) w w') : Fr I.b0 mv.ownBlock mv.ownBlock w w' := Fr.of hk (fun k _ e => by
  have e' : k = I.wk := e
  subst e'
  refine ⟨hI.low.1, fun c t f hc => ?_⟩
  rw [h.blk] at hc; simp at hc
  exact .inl (.inl hc.2.1.symm))
/-- The walk behind a change of its numbers alone. -/
theorem WkAt.nums {I : Wi} {mv : Value} {s s' : Wt} {w w' : World} (h : WkAt I mv s w) (hI : Ic I) (hk : Kept (· = I.wk) w w')
    (hblk : w'.heap[I.wk]? = some (.cells #[ptB' I.gd, .int .i64 (I.K.inp : Int), .string I.inp, .int .i64 (s'.cnt : Int), .int .i64 (s'.dn : Int), mv, .int .i64 s'.far.1, .int .u64 (s'.far.2 : Int), .slice (some ⟨I.kb, 0, none⟩) s'.kn.length s'.kn.length] 159 (0, 0)))
    (hmem : s'.mem = s.mem) (hmt : s'.mt = s.mt) (hkn : s'.kn = s.kn) (hs : Sane I.K s') (hf1 : -1 ≤ s'.far.1 ∧ s'.far.1 ≤ (I.K.len : Int)) (hf2 : s'.far.2 < 2 ^ 40) : WkAt I mv s' w' := by
  have hf := h.wkF hI hk
  obtain ⟨MB, h1, h2⟩ := h.mt
  refine h.turn hk hf h.wkK hblk hmem ⟨MB, own_kept h1 hk (fun i hi e => ?_), ?_⟩ ?_ hs (by rw [hkn]) hf1 hf2
  · have e' : i = I.wk := e
    obtain ⟨c, hc⟩ := ownsRow_obj h1 hi
    rw [e', show objAt w I.wk = _ from h.blk] at hc
    simp at hc
  · rw [hmt]; exact h2.mono (fun a b _ hr => hr.fr hf)
  · rw [hkn, hk.block I.kb (objAt_lt (show objAt w I.kb = _ from h.kn)) (fun e => by
      have e' : I.kb = I.wk := e
      have := h.kn
      rw [e', h.blk] at this; simp at this)]
    exact h.kn
theorem WkAt.cells {I : Wi} {mv : Value} {s : Wt} {w : World} (h : WkAt I mv s w) : w.cell? ⟨I.wk, 0, none⟩ = some (ptB' I.gd) ∧ w.cell? ⟨I.wk, 1, none⟩ = some (.int .i64 (I.K.inp : Int)) ∧ w.cell? ⟨I.wk, 2, none⟩ = some (.string I.inp) ∧ w.cell? ⟨I.wk, 3, none⟩ = some (.int .i64 (s.cnt : Int)) ∧ w.cell? ⟨I.wk, 4, none⟩ = some (.int .i64 (s.dn : Int)) ∧ w.cell? ⟨I.wk, 5, none⟩ = some mv ∧ w.cell? ⟨I.gd, 0, none⟩ = some (ptB' I.gb) ∧ w.cell? ⟨I.gd, 1, none⟩ = some (.int .i64 (I.K.most : Int)) ∧ w.cell? ⟨I.gd, 2, none⟩ = some (ptB' I.mb) := by
  refine ⟨?_, ?_, ?_, ?_, ?_, ?_, ?_, ?_, ?_⟩ <;> simp [World.cell?, h.blk, h.gnd]
theorem WkAt.frz {I : Wi} {mv : Value} {s : Wt} {w : World} (h : WkAt I mv s w) (o : Nat) : w.frozen? ⟨I.wk, o, none⟩ = false := by simp [World.frozen?, h.blk]
theorem WkAt.drewN {I : Wi} {mv : Value} {s : Wt} {w : World} (h : WkAt I mv s w) (hI : Ic I) (n : Nat) : WkAt I mv s (w.drewN n) :=
  h.nums hI ((Kept.refl (· = I.wk) w).drewN n) h.blk rfl rfl rfl h.sane h.far1 h.far2
end Go.Proofs.YtagklnaaoclmhaaGreatDoor

namespace Go.Proofs.YtagklnaaoclmhaaGreatDoor
open Go.RowKit

/-- What a piece of a walk leaves. -/
structure WkOut (I : Wi) (mv : Value) (t : Int) (s' : Wt) (w : World) (e : Ending) (w' : World) : Prop where
  res : e = .returned (.int .i64 t)
  st : ∃ mv', WkAt I mv' s' w' ∧ Fr I.b0 mv.ownBlock mv'.ownBlock w w'
/-- A part that may stand in another one. -/
def Pt4 (I : Wi) (i : Nat) : Prop := i < I.K.ns.length ∧ ((nth I.K.ns i).kind = 4 → I.P.getD i 0 ∈ I.L)
def StepC (I : Wi) (f : Nat) : Prop := ∀ i a s t s' mv w, Pt4 I i → a ≤ I.K.len → WkAt I mv s w → wM I.K f i a s = some (t, s') →
  Calls Tryz.prog 171 #[ptB' I.wk, ptrAt I.P i, .int .i64 (a : Int)] w fun e w' => WkOut I mv t s' w e w'
theorem own_fr {b0 : Nat} {m m' : Option Nat} {w w' : World} (hf : Fr b0 m m' w w') {base size n : Nat} {v : Value} {xs : List Value} (h : w.ownsRow base 187 size v n xs) : w'.ownsRow base 187 size v n xs :=
  own_kept h hf.kept (fun i hi hw => by
    obtain ⟨c, hc⟩ := ownsRow_obj h hi
    rcases hw.ty hc with h1 | ⟨h1, _⟩
    · rcases h1 with h1 | h1 | h1 | h1 | h1 | h1 | h1 <;> exact absurd h1 (by decide)
    · exact absurd h1 (by decide))
theorem pt_cell {w : World} {base : Nat} {v : Value} {P l : List Nat} (h : w.ownsRow base 187 1 v l.length (l.map (ptrAt P))) {k : Nat} (hk : k < l.length) :
    ∃ g cap, v = .slice (some ⟨g, 0, none⟩) l.length cap ∧ w.cell? ⟨g, k, none⟩ = some (ptrAt P l[k]) := by
  obtain ⟨g, cap, hv, _, _⟩ := h.form (by omega)
  subst hv
  refine ⟨g, cap, rfl, ?_⟩
  rw [h.cellAt k (by omega)]
  simp [hk]
theorem Rng.le {K : Wc} {t : Int} (h : Rng K t) : -1 ≤ t ∧ t ≤ (K.len : Int) ∨ t = -1 := by
  rcases h with h | h
  · exact .inr h
  · left; omega

set_option maxRecDepth 100000 in
set_option maxHeartbeats 1600000 in
theorem choice_any {I : Wi} (hI : Ic I) {f : Nat} (hS : StepC I f) (base a : Nat) (v : Value) (l : List Nat) (t : Int) (s s' : Wt) (mv : Value) (w : World) (ha : a ≤ I.K.len) (hO : w.ownsRow base 187 1 v l.length (l.map (ptrAt I.P))) (hl : ∀ j ∈ l, Pt4 I j) (hll : l.length ≤ 9223372036854775807) (h : WkAt I mv s w) (hr : wCh (fun j s => wM I.K f j a s) l s = some (t, s')) :
    Calls Tryz.prog 150 #[ptB' I.wk, .int .i64 (a : Int), v] w fun e w' => WkOut I mv t s' w e w' := by
  obtain ⟨p, cap, hv⟩ := ownsRow_form hO
  subst hv
  have HR : Hid (wCh (fun j s => wM I.K f j a s) (l.drop 0) s = some (t, s')) := hr
  clear hr
  unfold ptB'
  go_enter Tryz.func150, Tryz.ntmps150
  go_wp2
  go_loopg [12] l.length (fun n i wx => ∃ (k : Nat) (mvx : Value) (sx : Wt), Hid (k + n = l.length) ∧ i = .int .i64 k ∧ WkAt I mvx sx wx ∧ Fr I.b0 mv.ownBlock mvx.ownBlock w wx ∧ Hid (wCh (fun j s => wM I.K f j a s) (l.drop k) sx = some (t, s')))
  case atStart => exact ⟨0, mv, s, Nat.zero_add _, rfl, h, Fr.refl _ _ _, HR.out⟩
  case round =>
    obtain ⟨k, mvx, sx, hkn, rfl, hx, hF, HX⟩ := hrel
    obtain ⟨m, hm⟩ : ∃ m, m = gk := ⟨gk, rfl⟩
    subst hm
    have hO6 := own_fr hF hO
    by_cases hlt : k < l.length
    · obtain ⟨g, cap', hv, r0⟩ := pt_cell hO6 hlt
      simp only [Value.slice.injEq] at hv
      obtain ⟨hp, _, hcap⟩ := hv
      subst hp hcap
      have hX := HX.out
      rw [List.drop_eq_getElem_cons hlt, wCh] at hX
      cases hq : wM I.K f l[k] a sx with
      | none => rw [hq] at hX; cases hX
      | some y =>
        obtain ⟨t1, s1⟩ := y
        rw [hq] at hX
        simp only at hX
        have hC := hS l[k] a sx t1 s1 mvx wr (hl _ (List.getElem_mem hlt)) ha hx hq
        unfold ptB' ptrAt at hC
        unfold ptrAt at r0
        obtain ⟨pq, hpq⟩ : ∃ pq, pq = I.P.getD l[k] 0 := ⟨_, rfl⟩
        rw [← hpq] at hC r0
        have HQ := hide hX
        clear hX HX hq hpq HR
        go_wp2_with fail
        refine hC.mono ?_
        rintro e w7 ⟨rfl, mv7, h7, hF7⟩
        have hF8 := hF.trans hF7
        by_cases ht : t1 = -1
        · have H2 : Hid (wCh (fun j s => wM I.K f j a s) (l.drop (k + 1)) s1 = some (t, s')) := by
            have := HQ.out
            rw [if_pos ht] at this
            exact this
          subst ht
          clear HQ hC
          go_wp2
          go_roundg (m - 1)
          case measure => have := hkn.out; omega
          case rel => exact ⟨k + 1, mv7, s1, by have := hkn.out; unfold Hid; omega, by go_num, h7, hF8, H2.out⟩
        · have H2 : Hid (t1 = t ∧ s1 = s') := by
            have := HQ.out
            rw [if_neg ht] at this
            unfold Hid
            simpa using this
          have q : (t1 != -1) = true := by simpa using ht
          clear HQ hC
          go_wp2
          go_ret
          obtain ⟨rfl, rfl⟩ := H2.out
          exact ⟨rfl, mv7, h7, hF8⟩
    · have H2 : Hid (t = -1 ∧ s' = sx) := by
        have := HX.out
        rw [List.drop_eq_nil_of_le (by omega), wCh] at this
        simp only [Option.some.injEq, Prod.mk.injEq] at this
        exact ⟨this.1.symm, this.2.symm⟩
      clear HX HR
      go_wp2
      go_ret
      obtain ⟨h1, h2⟩ := H2.out
      rw [h1, h2]
      exact ⟨rfl, mvx, hx, hF⟩
set_option maxRecDepth 100000 in
set_option maxHeartbeats 1600000 in
theorem seqW_any {I : Wi} (hI : Ic I) {f : Nat} (hS : StepC I f) (base a : Nat) (v : Value) (l : List Nat) (t : Int) (s s' : Wt) (mv : Value) (w : World) (ha : a ≤ I.K.len) (hO : w.ownsRow base 187 1 v l.length (l.map (ptrAt I.P))) (hl : ∀ j ∈ l, Pt4 I j) (hll : l.length ≤ 9223372036854775807) (h : WkAt I mv s w) (hr : wSq (fun j a s => wM I.K f j a s) l a s = some (t, s')) :
    Calls Tryz.prog 192 #[ptB' I.wk, .int .i64 (a : Int), v] w fun e w' => WkOut I mv t s' w e w' := by
  obtain ⟨p, cap, hv⟩ := ownsRow_form hO
  subst hv
  have HR : Hid (wSq (fun j a s => wM I.K f j a s) (l.drop 0) a s = some (t, s')) := hr
  have hl60 := hI.l60
  have hlen := hI.len
  clear hr
  unfold ptB'
  go_enter Tryz.func192, Tryz.ntmps192
  go_wp2
  go_loopg [1, 11] l.length (fun n x i wx => ∃ (k ax : Nat) (mvx : Value) (sx : Wt), Hid (k + n = l.length) ∧ i = .int .i64 k ∧ x = .int .i64 (ax : Int) ∧ ax ≤ I.K.len ∧ WkAt I mvx sx wx ∧ Fr I.b0 mv.ownBlock mvx.ownBlock w wx ∧ Hid (wSq (fun j a s => wM I.K f j a s) (l.drop k) ax sx = some (t, s')))
  case atStart => exact ⟨0, a, mv, s, Nat.zero_add _, rfl, rfl, ha, h, Fr.refl _ _ _, HR.out⟩
  case round =>
    obtain ⟨k, ax, mvx, sx, hkn, rfl, rfl, hax, hx, hF, HX⟩ := hrel
    obtain ⟨m, hm⟩ : ∃ m, m = gk := ⟨gk, rfl⟩
    subst hm
    have hO6 := own_fr hF hO
    by_cases hlt : k < l.length
    · obtain ⟨g, cap', hv, r0⟩ := pt_cell hO6 hlt
      simp only [Value.slice.injEq] at hv
      obtain ⟨hp, _, hcap⟩ := hv
      subst hp hcap
      have hX := HX.out
      rw [List.drop_eq_getElem_cons hlt, wSq] at hX
      cases hq : wM I.K f l[k] ax sx with
      | none => rw [hq] at hX; cases hX
      | some y =>
        obtain ⟨t1, s1⟩ := y
        rw [hq] at hX
        simp only at hX
        have hC := hS l[k] ax sx t1 s1 mvx wr (hl _ (List.getElem_mem hlt)) hax hx hq
        have hst := (wM_stp f l[k] ax sx t1 s1 hax hx.sane hq).1.rng
        unfold ptB' ptrAt at hC
        unfold ptrAt at r0
        obtain ⟨pq, hpq⟩ : ∃ pq, pq = I.P.getD l[k] 0 := ⟨_, rfl⟩
        rw [← hpq] at hC r0
        have HQ := hide hX
        clear hX HX hq hpq HR
        go_wp2_with fail
        refine hC.mono ?_
        rintro e w7 ⟨rfl, mv7, h7, hF7⟩
        have hF8 := hF.trans hF7
        by_cases ht : t1 = -1
        · have H2 : Hid (t = -1 ∧ s' = s1) := by
            have := HQ.out
            rw [if_pos ht] at this
            simp only [Option.some.injEq, Prod.mk.injEq] at this
            exact ⟨this.1.symm, this.2.symm⟩
          subst ht
          clear HQ hC
          go_wp2
          go_ret
          obtain ⟨h1, h2⟩ := H2.out
          rw [h1, h2]
          exact ⟨rfl, mv7, h7, hF8⟩
        · have H2 : Hid (wSq (fun j a s => wM I.K f j a s) (l.drop (k + 1)) t1.toNat s1 = some (t, s')) := by
            have := HQ.out
            rw [if_neg ht] at this
            exact this
          have q : (t1 == -1) = false := by simpa using ht
          obtain ⟨b1, hb1⟩ : ∃ b1, b1 = t1.toNat := ⟨_, rfl⟩
          have hb2 := hst.nat ht
          rw [← hb1] at hb2 H2
          have HB : Hid (t1 = (b1 : Int)) := hb2.2.symm
          have hble := hb2.1
          clear HQ hC hst hb1 hb2
          go_wp2
          go_roundg (m - 1)
          case measure => have := hkn.out; omega
          case rel => exact ⟨k + 1, b1, mv7, s1, by have := hkn.out; unfold Hid; omega, by go_num, by rw [HB.out], hble, h7, hF8, H2.out⟩
    · have H2 : Hid (t = (ax : Int) ∧ s' = sx) := by
        have := HX.out
        rw [List.drop_eq_nil_of_le (by omega), wSq] at this
        simp only [Option.some.injEq, Prod.mk.injEq] at this
        exact ⟨this.1.symm, this.2.symm⟩
      clear HX HR
      go_wp2
      go_ret
      obtain ⟨h1, h2⟩ := H2.out
      rw [h1, h2]
      exact ⟨rfl, mvx, hx, hF⟩

set_option maxRecDepth 100000 in
set_option maxHeartbeats 1600000 in
theorem starW_any {I : Wi} (hI : Ic I) {f : Nat} (hS : StepC I f) (i a q : Nat) (t : Int) (s s' : Wt) (mv : Value) (w : World) (ha : a ≤ I.K.len) (hi : Pt4 I i) (h : WkAt I mv s w) (hr : wSt (fun a s => wM I.K f i a s) q a s = some (t, s')) :
    Calls Tryz.prog 194 #[ptB' I.wk, ptrAt I.P i, .int .i64 (a : Int)] w fun e w' => WkOut I mv t s' w e w' := by
  have HR : Hid (wSt (fun a s => wM I.K f i a s) q a s = some (t, s')) := hr
  clear hr
  have hS' := fun ax s t s' mv w ha h hq => hS i ax s t s' mv w hi ha h hq
  unfold ptB' ptrAt at hS' ⊢
  generalize I.P.getD i 0 = pq at *
  go_enter Tryz.func194, Tryz.ntmps194
  go_wp2
  go_loopg [2] q (fun n x wx => ∃ (ax : Nat) (mvx : Value) (sx : Wt), x = .int .i64 (ax : Int) ∧ ax ≤ I.K.len ∧ WkAt I mvx sx wx ∧ Fr I.b0 mv.ownBlock mvx.ownBlock w wx ∧ Hid (wSt (fun a s => wM I.K f i a s) n ax sx = some (t, s')))
  case atStart => exact ⟨a, mv, s, rfl, ha, h, Fr.refl _ _ _, HR.out⟩
  case round =>
    obtain ⟨ax, mvx, sx, rfl, hax, hx, hF, HX⟩ := hrel
    obtain ⟨m, hm⟩ : ∃ m, m = gk := ⟨gk, rfl⟩
    subst hm
    cases m with
    | zero => exact absurd HX.out (by simp [wSt])
    | succ m =>
      have hX := HX.out
      rw [wSt] at hX
      cases hq : wM I.K f i ax sx with
      | none => rw [hq] at hX; cases hX
      | some y =>
        obtain ⟨t1, s1⟩ := y
        rw [hq] at hX
        simp only at hX
        have hC := hS' ax sx t1 s1 mvx wr hax hx hq
        have hst := (wM_stp f i ax sx t1 s1 hax hx.sane hq).1.rng
        have HQ := hide hX
        clear hX HX hq HR
        go_wp2_with fail
        refine hC.mono ?_
        rintro e w7 ⟨rfl, mv7, h7, hF7⟩
        have hF8 := hF.trans hF7
        by_cases ht : t1 = -1
        · have H2 : Hid (t = (ax : Int) ∧ s' = s1) := by
            have := HQ.out
            rw [if_pos ht] at this
            simp only [Option.some.injEq, Prod.mk.injEq] at this
            exact ⟨this.1.symm, this.2.symm⟩
          subst ht
          clear HQ hC
          go_wp2
          go_ret
          obtain ⟨h1, h2⟩ := H2.out
          rw [h1, h2]
          exact ⟨rfl, mv7, h7, hF8⟩
        · have H2 : Hid (wSt (fun a s => wM I.K f i a s) m t1.toNat s1 = some (t, s')) := by
            have := HQ.out
            rw [if_neg ht] at this
            exact this
          have q : (t1 == -1) = false := by simpa using ht
          obtain ⟨b1, hb1⟩ : ∃ b1, b1 = t1.toNat := ⟨_, rfl⟩
          have hb2 := hst.nat ht
          rw [← hb1] at hb2 H2
          have HB : Hid (t1 = (b1 : Int)) := hb2.2.symm
          have hble := hb2.1
          clear HQ hC hst hb1 hb2
          go_wp2
          go_roundg m
          case measure => omega
          case rel => exact ⟨b1, mv7, s1, by rw [HB.out], hble, h7, hF8, H2.out⟩

set_option maxRecDepth 100000 in
set_option maxHeartbeats 800000 in
theorem optW_any {I : Wi} (hI : Ic I) {f : Nat} (hS : StepC I f) (i a : Nat) (t : Int) (s s' : Wt) (mv : Value) (w : World) (ha : a ≤ I.K.len) (hi : Pt4 I i) (h : WkAt I mv s w) (hr : (wM I.K f i a s).map (fun x => if x.1 = -1 then ((a : Int), x.2) else x) = some (t, s')) :
    Calls Tryz.prog 193 #[ptB' I.wk, ptrAt I.P i, .int .i64 (a : Int)] w fun e w' => WkOut I mv t s' w e w' := by
  cases hq : wM I.K f i a s with
  | none => rw [hq] at hr; cases hr
  | some y =>
    obtain ⟨t1, s1⟩ := y
    rw [hq] at hr
    simp only [Option.map_some, Option.some.injEq] at hr
    have hC := hS i a s t1 s1 mv w hi ha h hq
    unfold ptB' ptrAt at hC ⊢
    generalize I.P.getD i 0 = pq at *
    by_cases ht : t1 = -1
    · rw [if_pos ht] at hr
      simp only [Prod.mk.injEq] at hr
      obtain ⟨rfl, rfl⟩ := hr
      subst ht
      go_enter Tryz.func193, Tryz.ntmps193
      go_wp2_with fail
      refine hC.mono ?_
      rintro e w7 ⟨rfl, mv7, h7, hF7⟩
      go_wp2
      go_ret
      exact ⟨rfl, mv7, h7, hF7⟩
    · rw [if_neg ht] at hr
      simp only [Prod.mk.injEq] at hr
      obtain ⟨rfl, rfl⟩ := hr
      have q : (t1 == -1) = false := by simpa using ht
      go_enter Tryz.func193, Tryz.ntmps193
      go_wp2_with fail
      refine hC.mono ?_
      rintro e w7 ⟨rfl, mv7, h7, hF7⟩
      go_wp2
      go_ret
      exact ⟨rfl, mv7, h7, hF7⟩

set_option maxRecDepth 100000 in
set_option maxHeartbeats 800000 in
theorem plusW_any {I : Wi} (hI : Ic I) {f : Nat} (hS : StepC I f) (i a q : Nat) (t : Int) (s s' : Wt) (mv : Value) (w : World) (ha : a ≤ I.K.len) (hi : Pt4 I i) (h : WkAt I mv s w)
    (hr : (match wM I.K f i a s with | none => none | some (t, s') => if t = -1 then some (-1, s') else wSt (fun a s => wM I.K f i a s) q t.toNat s') = some (t, s')) :
    Calls Tryz.prog 195 #[ptB' I.wk, ptrAt I.P i, .int .i64 (a : Int)] w fun e w' => WkOut I mv t s' w e w' := by
  cases hq : wM I.K f i a s with
  | none => rw [hq] at hr; cases hr
  | some y =>
    obtain ⟨t1, s1⟩ := y
    rw [hq] at hr
    simp only at hr
    have hC := hS i a s t1 s1 mv w hi ha h hq
    have hst := (wM_stp f i a s t1 s1 ha h.sane hq).1.rng
    by_cases ht : t1 = -1
    · rw [if_pos ht] at hr
      simp only [Option.some.injEq, Prod.mk.injEq] at hr
      obtain ⟨rfl, rfl⟩ := hr
      subst ht
      unfold ptB' ptrAt at hC ⊢
      generalize I.P.getD i 0 = pq at *
      go_enter Tryz.func195, Tryz.ntmps195
      go_wp2_with fail
      refine hC.mono ?_
      rintro e w7 ⟨rfl, mv7, h7, hF7⟩
      go_wp2
      go_ret
      exact ⟨rfl, mv7, h7, hF7⟩
    · rw [if_neg ht] at hr
      have q2 : (t1 == -1) = false := by simpa using ht
      obtain ⟨b1, hb1⟩ : ∃ b1, b1 = t1.toNat := ⟨_, rfl⟩
      have hb2 := hst.nat ht
      rw [← hb1] at hb2 hr
      have hst2 := fun mv7 w7 h7 => starW_any hI hS i b1 q t s1 s' mv7 w7 hb2.1 hi h7 hr
      obtain ⟨rfl⟩ : t1 = (b1 : Int) := hb2.2.symm
      unfold ptB' ptrAt at hC hst2 ⊢
      generalize I.P.getD i 0 = pq at *
      clear hst hb1 hr hq
      go_enter Tryz.func195, Tryz.ntmps195
      go_wp2_with fail
      refine hC.mono ?_
      rintro e w7 ⟨rfl, mv7, h7, hF7⟩
      go_wp2_with fail
      refine (hst2 mv7 w7 h7).mono ?_
      rintro e w8 ⟨rfl, mv8, h8, hF8⟩
      go_wp2
      go_ret
      exact ⟨rfl, mv8, h8, hF7.trans hF8⟩
end Go.Proofs.YtagklnaaoclmhaaGreatDoor

namespace Go.Proofs.YtagklnaaoclmhaaGreatDoor
open Go.RowKit

theorem rg_cells {w : World} {base : Nat} {v : Value} {rs : List (Nat × Nat)} (h : w.ownsRow base 321 2 v rs.length (rs.flatMap rgV)) {k : Nat} (hk : k < rs.length) :
    ∃ g cap, v = .slice (some ⟨g, 0, none⟩) rs.length cap ∧ w.cell? ⟨g, k * 2, none⟩ = some (.int .u8 (rs[k].1 : Int)) ∧ w.cell? ⟨g, k * 2 + 1, none⟩ = some (.int .u8 (rs[k].2 : Int)) := by
  obtain ⟨g, cap, hv, _, _⟩ := h.form (by omega)
  subst hv
  have hf : ∀ a : Nat × Nat, (rgV a).length = 2 := fun _ => rfl
  refine ⟨g, cap, rfl, ?_, ?_⟩
  · rw [h.cellAt (k * 2) (by omega)]
    have := flat_get rgV 2 hf rs k 0 (by omega) hk
    rw [Nat.add_zero] at this
    rw [this]; rfl
  · rw [h.cellAt (k * 2 + 1) (by omega), flat_get rgV 2 hf rs k 1 (by omega) hk]; rfl

set_option maxRecDepth 100000 in
set_option maxHeartbeats 800000 in
theorem holds1_any (a z c kb : Nat) (w : World) (hk : w.cell? ⟨kb, 0, none⟩ = some (.int .u8 (c : Int))) :
    Calls Tryz.prog 211 #[.agg #[.int .u8 (a : Int), .int .u8 (z : Int)], .pointer (some ⟨kb, 0, none⟩)] w fun e w' => e = .returned (.bool (decide (a ≤ c ∧ c ≤ z))) ∧ Kept (fun _ => False) w w' := by
  have hlt := cell_lt hk
  have hne : kb ≠ w.heap.size := fun e => by subst e; exact Nat.lt_irrefl _ hlt
  have hne' : ¬ w.heap.size = kb := fun e => hne e.symm
  by_cases h1 : a ≤ c
  · have q1 : (a : Int) ≤ (c : Int) := by omega
    go_enter Tryz.func211, Tryz.ntmps211
    go_wp2
    go_ret
    refine ⟨?_, (Kept.refl _ _).alloc _⟩
    simp [h1]
  · have q1 : ¬ (a : Int) ≤ (c : Int) := by omega
    go_enter Tryz.func211, Tryz.ntmps211
    go_wp2
    go_ret
    refine ⟨?_, (Kept.refl _ _).alloc _⟩
    simp [h1]

set_option maxRecDepth 100000 in
set_option maxHeartbeats 1600000 in
theorem indexRange_any (base : Nat) (v : Value) (rs : List (Nat × Nat)) (c kb : Nat) (w : World) (hk : w.cell? ⟨kb, 0, none⟩ = some (.int .u8 (c : Int))) (hO : w.ownsRow base 321 2 v rs.length (rs.flatMap rgV)) (hl : rs.length ≤ 5000) :
    Calls Tryz.prog 214 #[v, .func (.func 211) #[] #[.pointer (some ⟨kb, 0, none⟩)]] w fun e w' => ∃ i : Int, e = .returned (.int .i64 i) ∧ (0 ≤ i ↔ inR rs c = true) ∧ Kept (fun _ => False) w w' := by
  obtain ⟨p, cap, hrv⟩ := ownsRow_form hO
  subst hrv
  have hkl := cell_lt hk
  go_enter Tryz.func214, Tryz.ntmps214
  go_wp2
  go_loopg [8] rs.length (fun n i wx => ∃ k : Nat, Hid (k + n = rs.length) ∧ i = .int .i64 k ∧ Hid (∀ j (h : j < rs.length), j < k → ¬ (rs[j].1 ≤ c ∧ c ≤ rs[j].2)) ∧ Kept (fun _ => False) w wx)
  case atStart => exact ⟨0, Nat.zero_add _, rfl, fun j _ h => absurd h (by omega), Kept.refl _ _⟩
  case round =>
    obtain ⟨k, hkn, rfl, HA, hK⟩ := hrel
    obtain ⟨m, hm⟩ : ∃ m, m = gk := ⟨gk, rfl⟩
    subst hm
    have hO6 := own_kept hO hK (fun _ _ h => h)
    have hk6 : wr.cell? ⟨kb, 0, none⟩ = some (.int .u8 (c : Int)) := by rw [hK.cell (p := ⟨kb, 0, none⟩) hkl (fun h => h)]; exact hk
    by_cases hlt : k < rs.length
    · obtain ⟨gb, cap', hrv, r0, r1⟩ := rg_cells hO6 hlt
      simp only [Value.slice.injEq] at hrv
      obtain ⟨hp, _, hcap⟩ := hrv
      subst hp hcap
      have hf := holds1_any rs[k].1 rs[k].2 c kb wr hk6
      go_wp2_with fail
      refine hf.mono ?_
      rintro e w7 ⟨rfl, hK7⟩
      have hK8 := hK.trans hK7
      by_cases hnm : rs[k].1 ≤ c ∧ c ≤ rs[k].2
      · have q : decide (rs[k].1 ≤ c ∧ c ≤ rs[k].2) = true := by simpa using hnm
        have HF : Hid (inR rs c = true) := by
          unfold Hid inR
          rw [List.any_eq_true]
          exact ⟨rs[k], List.getElem_mem hlt, by simpa using hnm⟩
        rw [q]
        clear hnm HA q
        go_wp2
        go_ret
        exact ⟨(k : Int), rfl, ⟨fun _ => HF.out, fun _ => by omega⟩, hK8⟩
      · have q : decide (rs[k].1 ≤ c ∧ c ≤ rs[k].2) = false := by simpa using hnm
        have HF : Hid (∀ j (h : j < rs.length), j < k + 1 → ¬ (rs[j].1 ≤ c ∧ c ≤ rs[j].2)) := fun j h hj => by
          rcases Nat.lt_or_eq_of_le (Nat.lt_succ_iff.1 hj) with h1 | h1
          · exact HA.out j h h1
          · subst h1; exact hnm
        rw [q]
        clear hnm HA q
        go_wp2
        go_roundg (m - 1)
        case measure => have := hkn.out; omega
        case rel => exact ⟨k + 1, by have := hkn.out; unfold Hid; omega, by go_num, HF, hK8⟩
    · have HF : Hid (inR rs c = false) := by
        unfold Hid inR
        rw [List.any_eq_false]
        intro x hx
        obtain ⟨j, hj, rfl⟩ := List.getElem_of_mem hx
        simpa using HA.out j hj (by omega)
      clear HA
      go_wp2
      go_ret
      exact ⟨-1, rfl, ⟨fun h => absurd h (by decide), fun h => by rw [HF.out] at h; cases h⟩, hK⟩

set_option maxRecDepth 100000 in
set_option maxHeartbeats 800000 in
theorem holds_any (base : Nat) (v : Value) (rs : List (Nat × Nat)) (c : Nat) (w : World) (hO : w.ownsRow base 321 2 v rs.length (rs.flatMap rgV)) (hl : rs.length ≤ 5000) :
    Calls Tryz.prog 205 #[.int .u8 (c : Int), v] w fun e w' => e = .returned (.bool (inR rs c)) ∧ Kept (fun _ => False) w w' := by
  have hmf : ∀ (fn : Fn) (first cap : Array Value) (w : World), (Instr.makeFunc fn first cap).run Tryz.prog w = .ok (.func fn first cap) w := fun _ _ _ _ => rfl
  obtain ⟨p, cap, hrv⟩ := ownsRow_form hO
  have hix := indexRange_any base v rs c w.heap.size (w.alloc (.cells #[.int .u8 (c : Int)] 5)) (by unfold World.cell?; rw [heap_alloc_new]; rfl) (hO.alloc _) hl
  have hcf : Calls Tryz.prog 210 #[v, .func (.func 211) #[] #[.pointer (some ⟨w.heap.size, 0, none⟩)]] (w.alloc (.cells #[.int .u8 (c : Int)] 5)) fun e w' => e = .returned (.bool (inR rs c)) ∧ Kept (fun _ => False) (w.alloc (.cells #[.int .u8 (c : Int)] 5)) w' := by
    subst hrv
    go_enter Tryz.func210, Tryz.ntmps210
    go_wp2_with fail
    refine hix.mono ?_
    rintro e w1 ⟨i, rfl, hi, hK⟩
    by_cases h0 : 0 ≤ i
    · have HI : Hid (inR rs c = true) := hi.1 h0
      clear hi
      go_wp2
      go_ret
      refine ⟨?_, hK⟩
      rw [HI.out]
      simp [h0]
    · have HI : Hid (inR rs c = false) := by
        unfold Hid
        cases hq : inR rs c with
        | false => rfl
        | true => exact absurd (hi.2 hq) h0
      clear hi
      go_wp2
      go_ret
      refine ⟨?_, hK⟩
      rw [HI.out]
      simp [h0]
  subst hrv
  go_enter Tryz.func205, Tryz.ntmps205
  go_wp2_with fail
  refine hcf.mono ?_
  rintro e w1 ⟨rfl, hK⟩
  go_wp2
  go_ret
  exact ⟨rfl, ((Kept.refl _ w).alloc _).trans hK⟩
end Go.Proofs.YtagklnaaoclmhaaGreatDoor

namespace Go.Proofs.YtagklnaaoclmhaaGreatDoor
open Go.RowKit

set_option maxRecDepth 100000 in
set_option maxHeartbeats 800000 in
theorem hasPrefix_any (s t : ByteArray) (w : World) (hs : s.size ≤ 1000) (ht : t.size ≤ 1000) :
    Calls Tryz.prog 204 #[.string s, .string t] w fun e w' => e = .returned (.bool (decide (t.size ≤ s.size) && ((s.extract 0 t.size).toList == t.toList))) ∧ w' = w := by
  have h2 : Calls Tryz.prog 209 #[.string s, .string t] w fun e w' => e = .returned (.bool (decide (t.size ≤ s.size) && ((s.extract 0 t.size).toList == t.toList))) ∧ w' = w := by
    by_cases h : t.size ≤ s.size
    · have q : (s.size : Int) ≥ (t.size : Int) := by omega
      have q2 : ¬ (s.size : Int) < (t.size : Int) := by omega
      go_enter Tryz.func209, Tryz.ntmps209
      go_wp2
      go_ret
      exact ⟨rfl, rfl⟩
    · have q : ¬ (s.size : Int) ≥ (t.size : Int) := by omega
      go_enter Tryz.func209, Tryz.ntmps209
      go_wp2
      go_ret
      exact ⟨rfl, rfl⟩
  go_enter Tryz.func204, Tryz.ntmps204
  go_wp2_with fail
  refine h2.mono ?_
  rintro e w1 ⟨rfl, rfl⟩
  go_wp2
  go_ret
  exact ⟨rfl, rfl⟩
theorem take_drop_byte {s : ByteArray} {a n : Nat} (t : List UInt8) (hn : t.length = n) (h : a + n ≤ s.size) : ((s.data.toList.drop a).take n = t) ↔ ∀ k, k < n → byteAt s (a + k) = (t.getD k 0).toNat := by
  have hl : s.data.toList.length = s.size := Array.length_toList
  constructor
  · rintro rfl k hk
    have hk2 : a + k < s.data.toList.length := by omega
    unfold byteAt
    simp only [List.getD_eq_getElem?_getD]
    rw [List.getElem?_take_of_lt hk, List.getElem?_drop]
  · intro hb
    apply List.ext_getElem
    · rw [List.length_take, List.length_drop]; omega
    · intro k h1 h2
      have hk : k < n := by omega
      have hk2 : a + k < s.data.toList.length := by omega
      have := hb k hk
      unfold byteAt at this
      simp only [List.getD_eq_getElem?_getD, List.getElem?_eq_getElem hk2, List.getElem?_eq_getElem h2, Option.getD_some] at this
      rw [List.getElem_take, List.getElem_drop]
      exact UInt8.toNat_inj.1 this
theorem lit_eq (s : ByteArray) (a : Nat) (t : List UInt8) (ha : a ≤ s.size) : (decide ((ba t).size ≤ (s.extract a s.size).size) && (((s.extract a s.size).extract 0 (ba t).size).toList == (ba t).toList)) = litB (byteAt s) s.size a t := by
  have hbs : (ba t).size = t.length := by show t.toArray.size = _; simp
  have hes : (s.extract a s.size).size = s.size - a := by simp [ByteArray.size_extract]
  rw [hbs, hes]
  unfold litB
  by_cases h : a + t.length ≤ s.size
  · have h1 : t.length ≤ s.size - a := by omega
    rw [decide_eq_true h, decide_eq_true h1, Bool.true_and, Bool.true_and]
    have hx : (s.extract a s.size).extract 0 t.length = ba ((s.data.toList.drop a).take t.length) := by
      rw [ba_extract (s.extract a s.size) 0 t.length (by rw [hes]; exact h1), ba_extract s a s.size (Nat.le_refl _)]
      have hl : s.data.toList.length = s.size := Array.length_toList
      congr 1
      show (((((s.data.toList.drop a).take (s.size - a)).toArray).toList).drop 0).take (t.length - 0) = _
      rw [List.drop_zero, Nat.sub_zero, List.toList_toArray, List.take_take, Nat.min_eq_left h1]
    rw [hx, ba_toList, ba_toList, Bool.eq_iff_iff, beq_iff_eq, take_drop_byte t rfl h, List.all_eq_true]
    constructor
    · intro hb k hk
      simpa using hb k (List.mem_range.1 hk)
    · intro hb k hk
      simpa using hb k (List.mem_range.2 hk)
  · have h1 : ¬ t.length ≤ s.size - a := by omega
    rw [decide_eq_false h, decide_eq_false h1]
    rfl

/-- How many bytes a terminal matches. -/
def strI (s : ByteArray) (N : Nd) (a : Nat) : Int := match tmT (byteAt s) s.size N a with | some t => (t : Int) - a | none => -1
set_option maxRecDepth 100000 in
set_option maxHeartbeats 1600000 in
theorem stretch_any {base : Nat} {S : Nat → Prop} {P : List Nat} {r : Int} {N : Nd} {k : Nat} (s : ByteArray) (a : Nat) (w : World) (h : PartIs w base S P r N k) (hk : N.kind ≤ 2) (ha : a ≤ s.size) (hs : s.size ≤ 60) (htx : N.text.length ≤ 1000) (hrl : N.rng.length ≤ 5000) :
    Calls Tryz.prog 200 #[ptB' k, .string (s.extract a s.size)] w fun e w' => e = .returned (.int .i64 (strI s N a)) ∧ Kept (fun _ => False) w w' := by
  obtain ⟨z, vR, vP, hb, _, hR, _, _, _⟩ := h
  have c0 : w.cell? ⟨k, 0, none⟩ = some (.int .i64 (kcode N.kind)) := by simp [World.cell?, hb, ptB]
  have c4 : w.cell? ⟨k, 4, none⟩ = some (.string (ba N.text)) := by simp [World.cell?, hb, ptB]
  have c5 : w.cell? ⟨k, 5, none⟩ = some vR := by simp [World.cell?, hb, ptB]
  have hbs : (ba N.text).size = N.text.length := by show N.text.toArray.size = _; simp
  have hes : (s.extract a s.size).size = s.size - a := by simp [ByteArray.size_extract]
  clear hb
  unfold ptB'
  by_cases h0 : N.kind = 0
  · have hkc : kcode N.kind = 1 := by rw [h0]; rfl
    rw [hkc] at c0
    have hH := hasPrefix_any (s.extract a s.size) (ba N.text) w (by omega) (by omega)
    rw [lit_eq s a N.text ha] at hH
    cases hl : litB (byteAt s) s.size a N.text with
    | true =>
      rw [hl] at hH
      have HS : Hid (strI s N a = (N.text.length : Int)) := by
        unfold Hid strI tmT
        rw [if_pos h0, if_pos hl]
        simp only; omega
      go_enter Tryz.func200, Tryz.ntmps200
      go_wp2_with fail
      refine hH.mono ?_
      rintro e w1 ⟨rfl, rfl⟩
      go_wp2
      go_ret
      refine ⟨?_, Kept.refl _ _⟩
      rw [HS.out, ← hbs]; rfl
    | false =>
      rw [hl] at hH
      have HS : Hid (strI s N a = -1) := by
        unfold Hid strI tmT
        rw [if_pos h0, if_neg (by rw [hl]; simp)]
      go_enter Tryz.func200, Tryz.ntmps200
      go_wp2_with fail
      refine hH.mono ?_
      rintro e w1 ⟨rfl, rfl⟩
      go_wp2
      go_ret
      refine ⟨?_, Kept.refl _ _⟩
      rw [HS.out]; rfl
  · have hkc1 : (kcode N.kind == 1) = false := by
      unfold kcode; rw [if_neg (by omega), if_pos hk]
      simp; omega
    by_cases hend : a = s.size
    · have he : s.extract a s.size = ⟨#[]⟩ := by rw [hend]; apply ByteArray.ext; simp
      have HS : Hid (strI s N a = -1) := by
        unfold Hid strI tmT
        rw [if_neg h0, if_neg (by omega)]
      rw [he]
      go_enter Tryz.func200, Tryz.ntmps200
      go_wp2_with fail
      go_quiet (fail)
      go_wp2
      go_ret
      refine ⟨?_, (Kept.refl _ _).drewN _⟩
      rw [HS.out]; rfl
    · obtain ⟨T, hT⟩ : ∃ T, T = s.extract a s.size := ⟨_, rfl⟩
      rw [← hT] at hes ⊢
      have hTs : 0 < T.size := by omega
      have hT0 : T[0].toNat = byteAt s a := by
        rw [byteAt_get (show a < s.size by omega)]
        congr 1
        subst hT
        simp [ByteArray.getElem_extract]
      have hTne : (T.toList == (⟨#[]⟩ : ByteArray).toList) = false := by
        rw [beq_eq_false_iff_ne]
        intro e
        have := congrArg List.length e
        simp [ByteArray.toList_eq] at this
        rw [this] at hTs
        simp at hTs
      have hTe : T.toList.isEmpty = false := by
        cases hq : T.toList with
        | nil => rw [hq] at hTne; simp at hTne
        | cons x l => rfl
      have hb256 := UInt8.toNat_lt T[0]
      clear hT
      by_cases h1 : N.kind = 1
      · have hkc : kcode N.kind = 2 := by rw [h1]; rfl
        rw [hkc] at c0 hkc1
        have hH := fun W hW => holds_any base vR N.rng (byteAt s a) W hW hrl
        have HS : Hid (strI s N a = if inR N.rng (byteAt s a) then 1 else -1) := by
          unfold Hid strI tmT
          rw [if_neg h0]
          by_cases hin : inR N.rng (byteAt s a) = true
          · rw [if_pos ⟨by omega, .inr hin⟩, if_pos hin]; simp only; omega
          · rw [if_neg (fun x => by
              rcases x.2 with e | e
              · omega
              · exact hin e), if_neg hin]
        obtain ⟨pp, cap, hvf⟩ := ownsRow_form hR
        subst hvf
        go_enter Tryz.func200, Tryz.ntmps200
        go_wp2_with fail
        have hkl := lt_cell c0
        go_region_held3 (fun w' => w'.cell? ⟨k, 0, none⟩ = some (.int .i64 2) ∧ w'.cell? ⟨k, 5, none⟩ = some (.slice pp N.rng.length cap)) (go_keep) ((go_at_call 205; refine (hH w.drew hR).mono ?_; rintro e w1 ⟨rfl, hK1⟩; have d0 : w1.cell? ⟨k, 0, none⟩ = some (.int .i64 2) := (hK1.cell (p := ⟨k, 0, none⟩) hkl (fun x => x)).trans c0; have d5 : w1.cell? ⟨k, 5, none⟩ = some (.slice pp N.rng.length cap) := (hK1.cell (p := ⟨k, 5, none⟩) hkl (fun x => x)).trans c5))
        cases hq : inR N.rng (byteAt s a)
        · rw [hq] at HS
          go_wp2
          go_ret
          refine ⟨?_, (Kept.refl (fun _ => False) w).drew.trans hK1⟩
          rw [HS.out]; rfl
        · rw [hq] at HS
          go_wp2
          go_ret
          refine ⟨?_, (Kept.refl (fun _ => False) w).drew.trans hK1⟩
          rw [HS.out]; rfl
      · have hkc : kcode N.kind = 3 := by rw [show N.kind = 2 by omega]; rfl
        rw [hkc] at c0 hkc1
        have HS : Hid (strI s N a = 1) := by
          unfold Hid strI tmT
          rw [if_neg h0, if_pos ⟨by omega, .inl (by omega)⟩]
          simp only; omega
        go_enter Tryz.func200, Tryz.ntmps200
        go_wp2_with fail
        go_quiet (fail)
        go_wp2
        go_ret
        refine ⟨?_, (Kept.refl _ _).drewN _⟩
        rw [HS.out]; rfl
theorem wrap_u64 {x : Nat} (h : x < 2 ^ 64) : IntKind.u64.wrap (x : Int) = (x : Int) := by
  unfold IntKind.wrap
  have h2 : IntKind.u64.bits = 64 := rfl
  have h3 : IntKind.u64.signed = false := rfl
  rw [h2, h3]
  simp only [Bool.false_and, Bool.false_eq_true, if_false]
  omega
theorem bv_nat {x : Nat} (h : x < 2 ^ 64) : (BitVec.ofInt 64 (x : Int)).toNat = x := by
  rw [BitVec.ofInt_natCast, BitVec.toNat_ofNat]
  exact Nat.mod_eq_of_lt h
theorem or_u64 {x y : Nat} (hx : x < 2 ^ 64) (hy : y < 2 ^ 64) : bits BinOp.or IntKind.u64 (x : Int) (y : Int) = ((x ||| y : Nat) : Int) := by
  have h : bits BinOp.or IntKind.u64 (x : Int) (y : Int) = IntKind.u64.wrap (((BitVec.ofInt 64 (x : Int) ||| BitVec.ofInt 64 (y : Int)).toNat : Nat) : Int) := rfl
  rw [h, BitVec.toNat_or, bv_nat hx, bv_nat hy, wrap_u64 (Nat.or_lt_two_pow hx hy)]
theorem and_u64 {x y : Nat} (hx : x < 2 ^ 64) (hy : y < 2 ^ 64) : bits BinOp.and IntKind.u64 (x : Int) (y : Int) = ((x &&& y : Nat) : Int) := by
  have h : bits BinOp.and IntKind.u64 (x : Int) (y : Int) = IntKind.u64.wrap (((BitVec.ofInt 64 (x : Int) &&& BitVec.ofInt 64 (y : Int)).toNat : Nat) : Int) := rfl
  rw [h, BitVec.toNat_and, bv_nat hx, bv_nat hy, wrap_u64 (Nat.and_lt_two_pow x hy)]
theorem or_pow {f t : Nat} (hf : f < 2 ^ 40) (ht : t < 40) : bits BinOp.or IntKind.u64 (f : Int) (IntKind.u64.wrap (2 ^ t)) = ((f ||| 2 ^ t : Nat) : Int) := by
  have h1 : (2 : Nat) ^ t < 2 ^ 64 := Nat.pow_lt_pow_right (by decide) (by omega)
  have h2 : ((2 : Int) ^ t) = ((2 ^ t : Nat) : Int) := by push_cast; rfl
  rw [h2, wrap_u64 h1]
  exact or_u64 (Nat.lt_of_lt_of_le hf (by decide)) h1
theorem fAdd_lt {p : Int} {f a t : Nat} (hf : f < 2 ^ 40) (ht : t < 40) : (fAdd (p, f) (a, t)).2 < 2 ^ 40 := by
  have h1 : (2 : Nat) ^ t < 2 ^ 40 := Nat.pow_lt_pow_right (by decide) ht
  unfold fAdd
  split
  · exact h1
  · split
    · exact Nat.or_lt_two_pow hf h1
    · exact hf

/-- A failure is taken in. -/
structure FaOut (wk : Nat) (x0 x1 x2 x3 x4 x5 x8 : Value) (F : Int × Nat) (w : World) (e : Ending) (w' : World) : Prop where
  res : e = .returned (.tuple #[])
  blk : w'.heap[wk]? = some (.cells #[x0, x1, x2, x3, x4, x5, .int .i64 F.1, .int .u64 (F.2 : Int), x8] 159 (0, 0))
  kept : Kept (· = wk) w w'
set_option maxRecDepth 100000 in
set_option maxHeartbeats 1600000 in
theorem farAdd_any (wk t a : Nat) (p : Int) (f : Nat) (x0 x1 x2 x3 x4 x5 x8 : Value) (w : World) (hb : w.heap[wk]? = some (.cells #[x0, x1, x2, x3, x4, x5, .int .i64 p, .int .u64 (f : Int), x8] 159 (0, 0))) (ht : t < 40) (hf : f < 2 ^ 40) (ha : a ≤ 60) (hp : -1 ≤ p ∧ p ≤ 60) :
    Calls Tryz.prog 201 #[.pointer (some ⟨wk, 6, none⟩), .int .i64 (t : Int), .int .i64 (a : Int)] w fun e w' => FaOut wk x0 x1 x2 x3 x4 x5 x8 (fAdd (p, f) (a, t)) w e w' := by
  have h0 : w.cell? ⟨wk, 6, none⟩ = some (.int .i64 p) := by simp [World.cell?, hb]
  have h1 : w.cell? ⟨wk, 7, none⟩ = some (.int .u64 (f : Int)) := by simp [World.cell?, hb]
  have f0 : w.frozen? ⟨wk, 6, none⟩ = false := by simp [World.frozen?, hb]
  have f1 : w.frozen? ⟨wk, 7, none⟩ = false := by simp [World.frozen?, hb]
  by_cases h : p < (a : Int)
  · have HF : Hid (fAdd (p, f) (a, t) = ((a : Int), 2 ^ t)) := by unfold Hid fAdd; rw [if_pos h]
    have HO : Hid (bits BinOp.or IntKind.u64 0 (IntKind.u64.wrap (2 ^ t)) = ((2 ^ t : Nat) : Int)) := by
      have := or_pow (f := 0) (t := t) (by decide) ht
      unfold Hid
      simpa using this
    go_enter Tryz.func201, Tryz.ntmps201
    go_wp2
    go_region
    go_end0
    rw [HF.out]
    refine ⟨rfl, ?_, ((((Kept.refl (· = wk) w).setCell (p := ⟨wk, 6, none⟩) (fun _ => rfl) _).setCell (p := ⟨wk, 7, none⟩) (fun _ => rfl) _).setCell (p := ⟨wk, 7, none⟩) (fun _ => rfl) _).drew⟩
    rw [World.drew_heap', heap_set_at (heap_set_at (heap_set_at hb 6 _) 7 _) 7 _, HO.out]
    simp
  · by_cases h2 : p = (a : Int)
    · subst h2
      have HF : Hid (fAdd ((a : Int), f) (a, t) = ((a : Int), f ||| 2 ^ t)) := by unfold Hid fAdd; rw [if_neg h, if_pos rfl]
      have HO : Hid (bits BinOp.or IntKind.u64 (f : Int) (IntKind.u64.wrap (2 ^ t)) = ((f ||| 2 ^ t : Nat) : Int)) := or_pow hf ht
      go_enter Tryz.func201, Tryz.ntmps201
      go_wp2
      go_region
      go_end0
      rw [HF.out]
      refine ⟨rfl, ?_, ((Kept.refl (· = wk) w).setCell (p := ⟨wk, 7, none⟩) (fun _ => rfl) _).drew⟩
      rw [World.drew_heap', heap_set_at hb 7 _, HO.out]
      simp
    · have HF : Hid (fAdd (p, f) (a, t) = (p, f)) := by unfold Hid fAdd; rw [if_neg h, if_neg h2]
      have q : ((a : Int) == p) = false := beq_eq_false_iff_ne.2 (fun e => h2 e.symm)
      go_enter Tryz.func201, Tryz.ntmps201
      go_wp2
      go_end0
      rw [HF.out]
      exact ⟨rfl, hb, Kept.refl _ _⟩
end Go.Proofs.YtagklnaaoclmhaaGreatDoor
