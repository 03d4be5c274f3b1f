import Derived.Test.YtagklnaaoclmhaaGreatDoorMgAC
import Derived.Test.YtagklnaaoclmhaaGreatDoorProg
import Derived.Conc.MuLone
import Derived.KernelRfl
set_option linter.unusedSimpArgs false
set_option linter.unusedVariables false
namespace Go.Proofs.YtagklnaaoclmhaaGreatDoor
open Go.RowKit

/-! The code's walk, as a machine of its own: the memory, what is matched, the table of the brackets. -/
inductive Rs where
  | mk (rule from_ : Nat) (to : Int) (cnt : Nat) (inner : List Rs)
def Rs.rule : Rs → Nat | .mk r _ _ _ _ => r
def Rs.from_ : Rs → Nat | .mk _ a _ _ _ => a
def Rs.to : Rs → Int | .mk _ _ t _ _ => t
def Rs.cnt : Rs → Nat | .mk _ _ _ c _ => c
def Rs.inner : Rs → List Rs | .mk _ _ _ _ l => l
structure Ky where
  inp : Nat
  rule : Nat
  place : Nat
deriving DecidableEq
/-- The memory: its entries in the order in which they came; by their last use, the newest first; by their places. -/
structure Ms where
  ent : List (Ky × Rs)
  ord : List Ky
  plc : List (Option Ky)
  hits : Nat
/-- What the memory does (0: there is none; 1: by places; 2: the oldest goes), its room, its rules, how many there are. -/
structure Mc where
  pol : Nat
  bud : Nat
  mask : Nat
  nr : Nat
def eGet (l : List (Ky × Rs)) (k : Ky) : Option Rs := (l.find? (fun e => decide (e.1 = k))).map (·.2)
def eSet : List (Ky × Rs) → Ky → Rs → List (Ky × Rs)
  | [], _, _ => []
  | e :: l, k, r => if e.1 = k then (e.1, r) :: l else e :: eSet l k r
def eDel : List (Ky × Rs) → Ky → List (Ky × Rs)
  | [], _ => []
  | e :: l, k => if e.1 = k then l else e :: eDel l k
def mUse (C : Mc) (M : Ms) (k : Ky) : Ms := if C.pol = 2 then { M with ord := k :: M.ord.erase k } else M
def mFind (C : Mc) (M : Ms) (k : Ky) : Option Rs × Ms :=
  match eGet M.ent k with
  | none => (none, M)
  | some r => (some r, mUse C { M with hits := M.hits + 1 } k)
def kNum (C : Mc) (k : Ky) : Nat := (k.inp * 61 + k.place) * C.nr + k.rule
/-- Room is made, and the key is laid by. -/
def mAdd (C : Mc) (M : Ms) (k : Ky) : Option Ky × Ms :=
  if C.pol = 2 then
    if M.ord.length < C.bud then (none, { M with ord := k :: M.ord })
    else (M.ord.getLast?, { M with ord := k :: M.ord.dropLast })
  else (M.plc.getD (kNum C k % C.bud) none, { M with plc := M.plc.set (kNum C k % C.bud) (some k) })
def mDrop (M : Ms) : Option Ky → Ms
  | none => M
  | some g => { M with ent := eDel M.ent g }
def mKeep (C : Mc) (M : Ms) (k : Ky) (r : Rs) : Ms :=
  if C.mask / 2 ^ k.rule % 2 = 0 then M
  else if (eGet M.ent k).isSome then mUse C { M with ent := eSet M.ent k r } k
  else
    let A := mAdd C M k
    let D := mDrop A.2 A.1
    { D with ent := D.ent ++ [(k, r)] }

/-- A walk under way. -/
structure Wt where
  cnt : Nat
  dn : Nat
  mt : List Rs
  far : Int × Nat
  kn : List (Option Int)
  mem : Ms
/-- What a walk goes by. -/
structure Wc where
  b : Nat → Nat
  len : Nat
  rs : List Rl
  ns : List Nd
  br : Nat → Nat
  most : Nat
  inp : Nat
  mc : Mc

def wCh (step : Nat → Wt → Option (Int × Wt)) : List Nat → Wt → Option (Int × Wt)
  | [], s => some (-1, s)
  | j :: l, s => match step j s with
    | none => none
    | some (t, s') => if t = -1 then wCh step l s' else some (t, s')
def wSq (step : Nat → Nat → Wt → Option (Int × Wt)) : List Nat → Nat → Wt → Option (Int × Wt)
  | [], a, s => some ((a : Int), s)
  | j :: l, a, s => match step j a s with
    | none => none
    | some (t, s') => if t = -1 then some (-1, s') else wSq step l t.toNat s'
def wSt (step : Nat → Wt → Option (Int × Wt)) : Nat → Nat → Wt → Option (Int × Wt)
  | 0, _, _ => none
  | f + 1, a, s => match step a s with
    | none => none
    | some (t, s') => if t = -1 then some ((a : Int), s') else wSt step f t.toNat s'
/-- A run of a rule: it is found, or done and kept. -/
def wBeg (s : Wt) (M : Ms) : Wt := { s with mem := M, cnt := s.cnt + 1, dn := s.dn + 1 }
def wRes (rule a : Nat) (s : Wt) (t : Int) (s1 : Wt) : Rs := .mk rule a t (s1.cnt - s.cnt) (s1.mt.drop s.mt.length)
def wEnd (K : Wc) (rule a : Nat) (s : Wt) (t : Int) (s1 : Wt) : Wt :=
  { s1 with mt := s1.mt.take s.mt.length ++ [wRes rule a s t s1], mem := if K.most < s1.cnt then s1.mem else mKeep K.mc s1.mem ⟨K.inp, rule, a⟩ (wRes rule a s t s1) }
def wRun (K : Wc) (step : Nat → Wt → Option (Int × Wt)) (rule a : Nat) (s : Wt) : Option (Int × Wt) :=
  match mFind K.mc s.mem ⟨K.inp, rule, a⟩ with
  | (some r, M) => some (r.to, { s with mem := M, cnt := s.cnt + r.cnt, mt := s.mt ++ [r] })
  | (none, M) => match wCh step (nth K.ns (isI K.rs rule)).subs (wBeg s M) with
    | none => none
    | some (t, s1) => some (t, wEnd K rule a s t s1)
def kIx (K : Wc) (i a : Nat) : Nat := K.br i * (K.len + 1) + a
def wBr (K : Wc) (step : Nat → Wt → Option (Int × Wt)) (i a : Nat) (s : Wt) : Option (Int × Wt) :=
  match s.kn.getD (kIx K i a) none with
  | some t => some (t, s)
  | none => match wCh step (nth K.ns i).subs s with
    | none => none
    | some (t, s') => some (t, if s'.cnt = s.cnt then { s' with kn := s'.kn.set (kIx K i a) (some t) } else s')
def wTm (K : Wc) (N : Nd) (a : Nat) (s : Wt) : Int × Wt :=
  match tmT K.b K.len N a with
  | some t => ((t : Int), s)
  | none => (-1, { s with far := fAdd s.far (a, N.term) })
def wCut (n : Nat) (x : Int × Wt) : Int × Wt := if x.1 = -1 then (x.1, { x.2 with mt := x.2.mt.take n }) else x
def wLk (n a : Nat) (want : Bool) (x : Int × Wt) : Int × Wt := (if decide (x.1 ≠ -1) = want then (a : Int) else -1, { x.2 with mt := x.2.mt.take n })
/-- One kind or another. -/
def wKd (K : Wc) (step : Nat → Nat → Wt → Option (Int × Wt)) (f i a : Nat) (s : Wt) : Option (Int × Wt) :=
  if (nth K.ns i).kind ≤ 2 then some (wTm K (nth K.ns i) a s)
  else if (nth K.ns i).kind = 3 then wRun K (fun j s => step j a s) (ruI K.rs (nth K.ns i)) a s
  else if (nth K.ns i).kind = 4 then wBr K (fun j s => step j a s) i a s
  else if (nth K.ns i).kind = 5 then wSq step (nth K.ns i).subs a s
  else if (nth K.ns i).kind = 6 then (step ((nth K.ns i).subs.getD 0 0) a s).map (fun x => if x.1 = -1 then ((a : Int), x.2) else x)
  else if (nth K.ns i).kind = 7 then wSt (fun a s => step ((nth K.ns i).subs.getD 0 0) a s) f a s
  else if (nth K.ns i).kind = 8 then
    match step ((nth K.ns i).subs.getD 0 0) a s with
    | none => none
    | some (t, s') => if t = -1 then some (-1, s') else wSt (fun a s => step ((nth K.ns i).subs.getD 0 0) a s) f t.toNat s'
  else (step ((nth K.ns i).subs.getD 0 0) a s).map (wLk s.mt.length a (decide ((nth K.ns i).kind = 9)))
def wM (K : Wc) : Nat → Nat → Nat → Wt → Option (Int × Wt)
  | 0, _, _, _ => none
  | f + 1, i, a, s => if K.most < s.cnt then some (-1, s) else (wKd K (wM K f) f i a s).map (wCut s.mt.length)
end Go.Proofs.YtagklnaaoclmhaaGreatDoor

namespace Go.Proofs.YtagklnaaoclmhaaGreatDoor
open Go.RowKit

/-! What the machine keeps to. -/
def Rng (K : Wc) (t : Int) : Prop := t = -1 ∨ 0 ≤ t ∧ t ≤ (K.len : Int)
structure Sane (K : Wc) (s : Wt) : Prop where
  cnt : s.cnt ≤ 2 * K.most + 1
  dn : s.dn ≤ s.cnt
  mtl : s.mt.length ≤ s.cnt
  hits : s.mem.hits ≤ s.cnt
  ent : ∀ e ∈ s.mem.ent, Rng K e.2.to ∧ 1 ≤ e.2.cnt ∧ e.2.cnt ≤ K.most
  kn : ∀ (q : Nat) (t : Int), s.kn[q]? = some (some t) → Rng K t
structure Wsp (K : Wc) (s : Wt) (t : Int) (s' : Wt) : Prop where
  sane : Sane K s'
  rng : Rng K t
  pre : ∃ l, s'.mt = s.mt ++ l
  cnt : s.cnt ≤ s'.cnt
  knl : s'.kn.length = s.kn.length
theorem Wsp.then {K : Wc} {s s1 s2 : Wt} {t1 t2 : Int} (h : Wsp K s t1 s1) (k : Wsp K s1 t2 s2) : Wsp K s t2 s2 := by
  obtain ⟨l, hl⟩ := h.pre
  obtain ⟨m, hm⟩ := k.pre
  exact ⟨k.sane, k.rng, ⟨l ++ m, by rw [hm, hl, List.append_assoc]⟩, Nat.le_trans h.cnt k.cnt, k.knl.trans h.knl⟩
theorem Wsp.to {K : Wc} {s s1 : Wt} {t1 t2 : Int} (h : Wsp K s t1 s1) (ht : Rng K t2) : Wsp K s t2 s1 := ⟨h.sane, ht, h.pre, h.cnt, h.knl⟩
theorem Rng.no (K : Wc) : Rng K (-1) := .inl rfl
theorem Rng.at_ {K : Wc} {a : Nat} (h : a ≤ K.len) : Rng K (a : Int) := .inr ⟨by omega, by omega⟩
theorem Rng.nat {K : Wc} {t : Int} (h : Rng K t) (hn : t ≠ -1) : t.toNat ≤ K.len ∧ (t.toNat : Int) = t := by
  rcases h with h | h
  · exact absurd h hn
  · omega
theorem Wsp.refl {K : Wc} {s : Wt} {t : Int} (h : Sane K s) (ht : Rng K t) : Wsp K s t s := ⟨h, ht, ⟨[], by simp⟩, Nat.le_refl _, rfl⟩
theorem Wsp.cut {K : Wc} {s s1 : Wt} {t : Int} (h : Wsp K s t s1) : Wsp K s t { s1 with mt := s1.mt.take s.mt.length } := by
  obtain ⟨l, hl⟩ := h.pre
  have ht : s1.mt.take s.mt.length = s.mt := by rw [hl]; simp
  refine ⟨⟨h.sane.cnt, h.sane.dn, ?_, h.sane.hits, h.sane.ent, h.sane.kn⟩, h.rng, ⟨[], by simp [ht]⟩, h.cnt, h.knl⟩
  show (s1.mt.take s.mt.length).length ≤ s1.cnt
  have := h.sane.mtl
  rw [List.length_take]; omega

theorem wCh_stp {K : Wc} {step : Nat → Wt → Option (Int × Wt)} (hs : ∀ j s t s', Sane K s → step j s = some (t, s') → Wsp K s t s') : ∀ l s t s', Sane K s → wCh step l s = some (t, s') → Wsp K s t s'
  | [], s, t, s', h, he => by
    simp only [wCh, Option.some.injEq, Prod.mk.injEq] at he
    rw [← he.1, ← he.2]
    exact Wsp.refl h (Rng.no K)
  | j :: l, s, t, s', h, he => by
    rw [wCh] at he
    cases hx : step j s with
    | none => rw [hx] at he; cases he
    | some x =>
      obtain ⟨t1, s1⟩ := x
      rw [hx] at he
      have h1 := hs j s t1 s1 h hx
      simp only at he
      split at he
      · exact h1.then (wCh_stp hs l s1 t s' h1.sane he)
      · simp only [Option.some.injEq, Prod.mk.injEq] at he
        rw [← he.1, ← he.2]; exact h1
theorem wSq_stp {K : Wc} {step : Nat → Nat → Wt → Option (Int × Wt)} (hs : ∀ j a s t s', a ≤ K.len → Sane K s → step j a s = some (t, s') → Wsp K s t s') : ∀ l a s t s', a ≤ K.len → Sane K s → wSq step l a s = some (t, s') → Wsp K s t s'
  | [], a, s, t, s', ha, h, he => by
    simp only [wSq, Option.some.injEq, Prod.mk.injEq] at he
    rw [← he.1, ← he.2]
    exact Wsp.refl h (Rng.at_ ha)
  | j :: l, a, s, t, s', ha, h, he => by
    rw [wSq] at he
    cases hx : step j a s with
    | none => rw [hx] at he; cases he
    | some x =>
      obtain ⟨t1, s1⟩ := x
      rw [hx] at he
      have h1 := hs j a s t1 s1 ha h hx
      simp only at he
      split at he
      · simp only [Option.some.injEq, Prod.mk.injEq] at he
        rw [← he.1, ← he.2]; exact h1.to (Rng.no K)
      · next hn => exact h1.then (wSq_stp hs l t1.toNat s1 t s' (h1.rng.nat hn).1 h1.sane he)
theorem wSt_stp {K : Wc} {step : Nat → Wt → Option (Int × Wt)} (hs : ∀ a s t s', a ≤ K.len → Sane K s → step a s = some (t, s') → Wsp K s t s') : ∀ f a s t s', a ≤ K.len → Sane K s → wSt step f a s = some (t, s') → Wsp K s t s'
  | 0, _, _, _, _, _, _, he => by cases he
  | f + 1, a, s, t, s', ha, h, he => by
    rw [wSt] at he
    cases hx : step a s with
    | none => rw [hx] at he; cases he
    | some x =>
      obtain ⟨t1, s1⟩ := x
      rw [hx] at he
      have h1 := hs a s t1 s1 ha h hx
      simp only at he
      split at he
      · simp only [Option.some.injEq, Prod.mk.injEq] at he
        rw [← he.1, ← he.2]; exact h1.to (Rng.at_ ha)
      · next hn => exact h1.then (wSt_stp hs f t1.toNat s1 t s' (h1.rng.nat hn).1 h1.sane he)
theorem mUse_ent (C : Mc) (M : Ms) (k : Ky) : (mUse C M k).ent = M.ent ∧ (mUse C M k).hits = M.hits := by unfold mUse; split <;> exact ⟨rfl, rfl⟩
theorem eGet_mem {l : List (Ky × Rs)} {k : Ky} {r : Rs} (h : eGet l k = some r) : (k, r) ∈ l := by
  unfold eGet at h
  cases hf : l.find? (fun e => decide (e.1 = k)) with
  | none => rw [hf] at h; cases h
  | some e =>
    rw [hf] at h
    have h1 := List.find?_some hf
    have h2 := List.mem_of_find?_eq_some hf
    simp at h1 h
    rw [← h1, ← h]; exact h2
theorem eSet_mem : ∀ (l : List (Ky × Rs)) (k : Ky) (r : Rs), ∀ e ∈ eSet l k r, e ∈ l ∨ e = (k, r)
  | [], _, _, e, h => by cases h
  | x :: l, k, r, e, h => by
    rw [eSet] at h
    split at h
    · next hk =>
      rcases List.mem_cons.1 h with e1 | e1
      · right; rw [e1, hk]
      · left; exact List.mem_cons_of_mem _ e1
    · rcases List.mem_cons.1 h with e1 | e1
      · left; rw [e1]; simp
      · rcases eSet_mem l k r e e1 with h2 | h2
        · left; exact List.mem_cons_of_mem _ h2
        · exact .inr h2
theorem eDel_mem : ∀ (l : List (Ky × Rs)) (k : Ky), ∀ e ∈ eDel l k, e ∈ l
  | [], _, e, h => h
  | x :: l, k, e, h => by
    rw [eDel] at h
    split at h
    · exact List.mem_cons_of_mem _ h
    · rcases List.mem_cons.1 h with e1 | e1
      · rw [e1]; simp
      · exact List.mem_cons_of_mem _ (eDel_mem l k e e1)
theorem mAdd_ent (C : Mc) (M : Ms) (k : Ky) : (mAdd C M k).2.ent = M.ent ∧ (mAdd C M k).2.hits = M.hits := by unfold mAdd; (repeat' split) <;> exact ⟨rfl, rfl⟩
theorem mDrop_ent (M : Ms) (g : Option Ky) : (∀ e ∈ (mDrop M g).ent, e ∈ M.ent) ∧ (mDrop M g).hits = M.hits := by
  cases g with
  | none => exact ⟨fun _ h => h, rfl⟩
  | some g => exact ⟨fun e h => eDel_mem M.ent g e h, rfl⟩
theorem mKeep_ent (C : Mc) (M : Ms) (k : Ky) (r : Rs) : (∀ e ∈ (mKeep C M k r).ent, e ∈ M.ent ∨ e = (k, r)) ∧ (mKeep C M k r).hits = M.hits := by
  unfold mKeep
  split
  · exact ⟨fun e h => .inl h, rfl⟩
  · split
    · rw [(mUse_ent C _ k).1, (mUse_ent C _ k).2]
      exact ⟨eSet_mem _ _ _, rfl⟩
    · refine ⟨fun e h => ?_, ?_⟩
      · rcases List.mem_append.1 h with h1 | h1
        · left
          have := (mDrop_ent (mAdd C M k).2 (mAdd C M k).1).1 e h1
          rw [(mAdd_ent C M k).1] at this
          exact this
        · right; simpa using h1
      · exact (mDrop_ent (mAdd C M k).2 (mAdd C M k).1).2.trans (mAdd_ent C M k).2
theorem mFind_ent (C : Mc) (M : Ms) (k : Ky) : (mFind C M k).2.ent = M.ent ∧ (∀ r, (mFind C M k).1 = some r → (k, r) ∈ M.ent ∧ (mFind C M k).2.hits = M.hits + 1) ∧ ((mFind C M k).1 = none → (mFind C M k).2 = M) := by
  unfold mFind
  cases hg : eGet M.ent k with
  | none => exact ⟨rfl, fun r h => (by cases h), fun _ => rfl⟩
  | some r => exact ⟨(mUse_ent C _ k).1, fun r' h => (by cases h; exact ⟨eGet_mem hg, (mUse_ent C _ k).2⟩), fun h => (by cases h)⟩
theorem wRun_stp {K : Wc} {step : Nat → Wt → Option (Int × Wt)} (hs : ∀ j s t s', Sane K s → step j s = some (t, s') → Wsp K s t s') {rule a : Nat} {s : Wt} {t : Int} {s' : Wt} (h : Sane K s) (hm : s.cnt ≤ K.most) (he : wRun K step rule a s = some (t, s')) : Wsp K s t s' := by
  unfold wRun at he
  obtain ⟨h1, h2, h3⟩ := mFind_ent K.mc s.mem ⟨K.inp, rule, a⟩
  cases hf : mFind K.mc s.mem ⟨K.inp, rule, a⟩ with
  | mk o M =>
    rw [hf] at he h1 h2 h3
    cases o with
    | some r =>
      simp only [Option.some.injEq, Prod.mk.injEq] at he
      obtain ⟨h4, h5⟩ := h2 r rfl
      have h6 := h.ent _ h4
      dsimp only at h6
      have := h.mtl; have := h.hits; have := h.dn
      rw [← he.1, ← he.2]
      refine ⟨⟨by show s.cnt + r.cnt ≤ _; omega, by show s.dn ≤ s.cnt + r.cnt; omega, by show (s.mt ++ [r]).length ≤ s.cnt + r.cnt; simp; omega, by show M.hits ≤ s.cnt + r.cnt; simp only at h5; omega, fun e hx => h.ent e (by rw [← h1]; exact hx), h.kn⟩, h6.1, ⟨[r], rfl⟩, by show s.cnt ≤ s.cnt + r.cnt; omega, rfl⟩
    | none =>
      have h4 := h3 rfl
      simp only at h4 he
      rw [h4] at he
      cases hc : wCh step (nth K.ns (isI K.rs rule)).subs (wBeg s s.mem) with
      | none => rw [hc] at he; cases he
      | some x =>
        obtain ⟨t1, s1⟩ := x
        rw [hc] at he
        simp only [Option.some.injEq, Prod.mk.injEq] at he
        have := h.mtl; have := h.hits; have := h.dn; have := h.cnt
        have hb : Sane K (wBeg s s.mem) := ⟨by show s.cnt + 1 ≤ _; omega, by show s.dn + 1 ≤ s.cnt + 1; omega, by show s.mt.length ≤ s.cnt + 1; omega, by show s.mem.hits ≤ s.cnt + 1; omega, h.ent, h.kn⟩
        have hc1 := wCh_stp hs _ _ _ _ hb hc
        have hcnt : s.cnt + 1 ≤ s1.cnt := hc1.cnt
        obtain ⟨l, hl⟩ := hc1.pre
        have hl' : s1.mt = s.mt ++ l := hl
        have htk : s1.mt.take s.mt.length = s.mt := by rw [hl']; simp
        rw [← he.1, ← he.2]
        refine ⟨⟨hc1.sane.cnt, hc1.sane.dn, ?_, ?_, ?_, hc1.sane.kn⟩, hc1.rng, ⟨[wRes rule a s t1 s1], ?_⟩, by show s.cnt ≤ s1.cnt; omega, hc1.knl⟩
        · show (s1.mt.take s.mt.length ++ [wRes rule a s t1 s1]).length ≤ s1.cnt
          rw [htk]; simp; omega
        · show (if K.most < s1.cnt then s1.mem else mKeep K.mc s1.mem ⟨K.inp, rule, a⟩ (wRes rule a s t1 s1)).hits ≤ s1.cnt
          have := hc1.sane.hits
          split
          · exact this
          · rw [(mKeep_ent _ _ _ _).2]; exact this
        · show ∀ e ∈ (if K.most < s1.cnt then s1.mem else mKeep K.mc s1.mem ⟨K.inp, rule, a⟩ (wRes rule a s t1 s1)).ent, _
          split
          · exact hc1.sane.ent
          · intro e hx
            rcases (mKeep_ent _ _ _ _).1 e hx with h5 | h5
            · exact hc1.sane.ent e h5
            · rw [h5]
              refine ⟨hc1.rng, ?_, ?_⟩
              · show 1 ≤ s1.cnt - s.cnt; omega
              · show s1.cnt - s.cnt ≤ K.most; omega
        · show s1.mt.take s.mt.length ++ _ = _
          rw [htk]
theorem wBr_stp {K : Wc} {step : Nat → Wt → Option (Int × Wt)} (hs : ∀ j s t s', Sane K s → step j s = some (t, s') → Wsp K s t s') {i a : Nat} {s : Wt} {t : Int} {s' : Wt} (h : Sane K s) (he : wBr K step i a s = some (t, s')) : Wsp K s t s' := by
  unfold wBr at he
  cases hk : s.kn.getD (kIx K i a) none with
  | some t1 =>
    rw [hk] at he
    simp only [Option.some.injEq, Prod.mk.injEq] at he
    rw [← he.1, ← he.2]
    refine Wsp.refl h (h.kn (kIx K i a) t1 ?_)
    rw [List.getD_eq_getElem?_getD] at hk
    cases hx : s.kn[kIx K i a]? with
    | none => rw [hx] at hk; cases hk
    | some y => rw [hx] at hk; simp at hk; rw [hk]
  | none =>
    rw [hk] at he
    simp only at he
    cases hc : wCh step (nth K.ns i).subs s with
    | none => rw [hc] at he; cases he
    | some x =>
      obtain ⟨t1, s1⟩ := x
      rw [hc] at he
      simp only [Option.some.injEq, Prod.mk.injEq] at he
      have hc1 := wCh_stp hs _ _ _ _ h hc
      rw [← he.1, ← he.2]
      split
      · refine ⟨⟨hc1.sane.cnt, hc1.sane.dn, hc1.sane.mtl, hc1.sane.hits, hc1.sane.ent, fun q t hq => ?_⟩, hc1.rng, hc1.pre, hc1.cnt, by simp [hc1.knl]⟩
        have hq' : (s1.kn.set (kIx K i a) (some t1))[q]? = some (some t) := hq
        rw [List.getElem?_set] at hq'
        split at hq'
        · split at hq'
          · simp at hq'; rw [← hq']; exact hc1.rng
          · cases hq'
        · exact hc1.sane.kn q t hq'
      · exact hc1
theorem litB_le {b : Nat → Nat} {len a : Nat} {t : List UInt8} (h : litB b len a t = true) : a + t.length ≤ len := by
  unfold litB at h
  simp at h
  exact h.1
theorem wM_stp {K : Wc} : ∀ f i a s t s', a ≤ K.len → Sane K s → wM K f i a s = some (t, s') → Wsp K s t s' ∧ (t = -1 → s'.mt = s.mt)
  | 0, _, _, _, _, _, _, _, he => by cases he
  | f + 1, i, a, s, t, s', ha, h, he => by
    have ih : ∀ j b s t s', b ≤ K.len → Sane K s → wM K f j b s = some (t, s') → Wsp K s t s' := fun j b s t s' hb hs hx => (wM_stp f j b s t s' hb hs hx).1
    rw [wM] at he
    split at he
    · simp only [Option.some.injEq, Prod.mk.injEq] at he
      rw [← he.1, ← he.2]
      exact ⟨Wsp.refl h (Rng.no K), fun _ => rfl⟩
    · next hm =>
      have hm' : s.cnt ≤ K.most := by omega
      cases hk : wKd K (wM K f) f i a s with
      | none => rw [hk] at he; cases he
      | some x =>
        obtain ⟨t1, s1⟩ := x
        rw [hk] at he
        simp only [Option.map_some, Option.some.injEq] at he
        have hstp : Wsp K s t1 s1 := by
          unfold wKd at hk
          split at hk
          · simp only [Option.some.injEq] at hk
            unfold wTm at hk
            cases htm : tmT K.b K.len (nth K.ns i) a with
            | some u =>
              rw [htm] at hk
              simp only [Prod.mk.injEq] at hk
              rw [← hk.1, ← hk.2]
              refine Wsp.refl h (Rng.at_ ?_)
              unfold tmT at htm
              split at htm
              · split at htm
                · next hl => cases htm; exact litB_le hl
                · cases htm
              · split at htm
                · next hl => cases htm; omega
                · cases htm
            | none =>
              rw [htm] at hk
              simp only [Prod.mk.injEq] at hk
              rw [← hk.1, ← hk.2]
              exact ⟨⟨h.cnt, h.dn, h.mtl, h.hits, h.ent, h.kn⟩, Rng.no K, ⟨[], by simp⟩, Nat.le_refl _, rfl⟩
          · split at hk
            · exact wRun_stp (fun j s t s' hs hx => ih j a s t s' ha hs hx) h hm' hk
            · split at hk
              · exact wBr_stp (fun j s t s' hs hx => ih j a s t s' ha hs hx) h hk
              · split at hk
                · exact wSq_stp (fun j b s t s' hb hs hx => ih j b s t s' hb hs hx) _ _ _ _ _ ha h hk
                · split at hk
                  · cases hx : wM K f ((nth K.ns i).subs.getD 0 0) a s with
                    | none => rw [hx] at hk; cases hk
                    | some y =>
                      obtain ⟨t2, s2⟩ := y
                      rw [hx] at hk
                      simp only [Option.map_some, Option.some.injEq] at hk
                      have h1 := ih _ _ _ _ _ ha h hx
                      split at hk
                      · simp only [Prod.mk.injEq] at hk
                        rw [← hk.1, ← hk.2]; exact h1.to (Rng.at_ ha)
                      · simp only [Prod.mk.injEq] at hk
                        rw [← hk.1, ← hk.2]; exact h1
                  · split at hk
                    · exact wSt_stp (fun b s t s' hb hs hx => ih _ b s t s' hb hs hx) _ _ _ _ _ ha h hk
                    · split at hk
                      · cases hx : wM K f ((nth K.ns i).subs.getD 0 0) a s with
                        | none => rw [hx] at hk; cases hk
                        | some y =>
                          obtain ⟨t2, s2⟩ := y
                          rw [hx] at hk
                          simp only at hk
                          have h1 := ih _ _ _ _ _ ha h hx
                          split at hk
                          · simp only [Option.some.injEq, Prod.mk.injEq] at hk
                            rw [← hk.1, ← hk.2]; exact h1.to (Rng.no K)
                          · next hn => exact h1.then (wSt_stp (fun b s t s' hb hs hx => ih _ b s t s' hb hs hx) _ _ _ _ _ (h1.rng.nat hn).1 h1.sane hk)
                      · cases hx : wM K f ((nth K.ns i).subs.getD 0 0) a s with
                        | none => rw [hx] at hk; cases hk
                        | some y =>
                          obtain ⟨t2, s2⟩ := y
                          rw [hx] at hk
                          simp only [Option.map_some, Option.some.injEq, wLk, Prod.mk.injEq] at hk
                          have h1 := ih _ _ _ _ _ ha h hx
                          rw [← hk.1, ← hk.2]
                          refine h1.cut.to ?_
                          split
                          · exact Rng.at_ ha
                          · exact Rng.no K
        unfold wCut at he
        split at he
        · next hn =>
          simp only [Prod.mk.injEq] at he
          rw [← he.1, ← he.2]
          refine ⟨hstp.cut, fun _ => ?_⟩
          obtain ⟨l, hl⟩ := hstp.pre
          show s1.mt.take s.mt.length = s.mt
          rw [hl]; simp
        · next hn =>
          simp only [Prod.mk.injEq] at he
          rw [← he.1, ← he.2]
          exact ⟨hstp, fun e => absurd e hn⟩
end Go.Proofs.YtagklnaaoclmhaaGreatDoor

namespace Go.Proofs
/-- Where the lock's functions and types lie. -/
abbrev Tryz.muLink : Go.Conc.Locks.MuLink := { lock := 108, unlock := 109, ilock := 154, iunlock := 155, lockSlow := 173, unlockSlow := 175, disable := 111, enable := 112, acquire := 123, relMerge := 110, cas32 := 172, add32 := 174, tMutex := 216, tIMutex := 214, tPMutex := 285, tPIMutex := 297, tPI32 := 299, tUP := 236, tNoCopy := 164, tU32 := 169 }
theorem Tryz.muLib : Go.Conc.Locks.MuLib Tryz.prog Tryz.muLink :=
  ⟨Tryz.func108, Tryz.func109, Tryz.func154, Tryz.func155, Tryz.func111, Tryz.func112, Tryz.func123, Tryz.func110, Tryz.func172, Tryz.func174, Tryz.underlying214, Tryz.runUnderlying214, Tryz.sizeOf214, Tryz.isAgg214, Tryz.zeroValue214, Tryz.underlying216, Tryz.runUnderlying216, Tryz.sizeOf216, Tryz.isAgg216, Tryz.zeroValue216, Tryz.underlying285, Tryz.runUnderlying285, Tryz.sizeOf285, Tryz.isAgg285, Tryz.zeroValue285, Tryz.underlying297, Tryz.runUnderlying297, Tryz.sizeOf297, Tryz.isAgg297, Tryz.zeroValue297, Tryz.underlying299, Tryz.runUnderlying299, Tryz.sizeOf299, Tryz.isAgg299, Tryz.zeroValue299, Tryz.underlying236, Tryz.runUnderlying236, Tryz.sizeOf236, Tryz.isAgg236, Tryz.zeroValue236, Tryz.underlying164, Tryz.runUnderlying164, Tryz.sizeOf164, Tryz.isAgg164, Tryz.zeroValue164, Tryz.underlying21, Tryz.runUnderlying21, Tryz.sizeOf21, Tryz.isAgg21, Tryz.zeroValue21, (by kernel_rfl)⟩
end Go.Proofs
