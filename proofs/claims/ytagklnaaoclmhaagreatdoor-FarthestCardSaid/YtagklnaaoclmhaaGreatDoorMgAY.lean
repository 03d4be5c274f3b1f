import Derived.Test.YtagklnaaoclmhaaGreatDoorMgAD
import Derived.Test.YtagklnaaoclmhaaGreatDoorMgAX
set_option linter.unusedSimpArgs false
set_option linter.unusedVariables false
namespace Go.Proofs.YtagklnaaoclmhaaGreatDoor
open Go.RowKit

/-! The machine does what the document says. -/
def toI : Option Nat → Int
  | none => -1
  | some t => (t : Int)
theorem toI_no {x : Option Nat} : toI x = -1 ↔ x = none := by
  cases x with
  | none => simp [toI]
  | some t => simp [toI]
theorem toI_inj {x y : Option Nat} (h : toI x = toI y) : x = y := by
  cases x <;> cases y <;> simp [toI] at h ⊢ <;> omega
/-- A node whose end may be none. -/
structure NoI where
  rule : Nat
  from_ : Nat
  to : Int
  dep : Nat
def nI (n : Nod) : NoI := ⟨n.rule, n.from_, (n.to : Int), n.dep⟩
def shI (k : Nat) (n : NoI) : NoI := ⟨n.rule, n.from_, n.to, n.dep + k⟩
theorem nI_sh (k : Nat) (l : List Nod) : (l.map (shN k)).map nI = (l.map nI).map (shI k) := by
  rw [List.map_map, List.map_map]; rfl
mutual
def flR (dp : Nat) : Rs → List NoI
  | .mk r a t c l => ⟨r, a, t, dp⟩ :: flL (dp + 1) l
def flL (dp : Nat) : List Rs → List NoI
  | [] => []
  | r :: l => flR dp r ++ flL dp l
end
theorem flL_app (dp : Nat) : ∀ l m, flL dp (l ++ m) = flL dp l ++ flL dp m
  | [], m => by simp [flL]
  | r :: l, m => by rw [List.cons_append, flL, flL, flL_app dp l m, List.append_assoc]
mutual
theorem flR_sh (k : Nat) : ∀ (r : Rs) (dp : Nat), flR (dp + k) r = (flR dp r).map (shI k)
  | .mk r a t c l, dp => by
    rw [flR, flR, List.map_cons, show dp + k + 1 = dp + 1 + k by omega, flL_sh k l (dp + 1)]
    rfl
theorem flL_sh (k : Nat) : ∀ (l : List Rs) (dp : Nat), flL (dp + k) l = (flL dp l).map (shI k)
  | [], dp => by simp [flL]
  | r :: l, dp => by rw [flL, flL, List.map_append, flR_sh k r dp, flL_sh k l dp]
end
theorem map_shI_inj {k : Nat} : ∀ {l m : List NoI}, l.map (shI k) = m.map (shI k) → l = m
  | [], [], _ => rfl
  | [], _ :: _, h => by simp at h
  | _ :: _, [], h => by simp at h
  | a :: l, b :: m, h => by
    rw [List.map_cons, List.map_cons, List.cons.injEq] at h
    have h2 := map_shI_inj h.2
    obtain ⟨a1, a2, a3, a4⟩ := a
    obtain ⟨b1, b2, b3, b4⟩ := b
    have h1 := h.1
    simp [shI] at h1
    obtain ⟨e1, e2, e3, e4⟩ := h1
    subst e1; subst e2; subst e3; subst e4; rw [h2]

/-- What failed there is told already. -/
def FIn (s e : Int × Nat) : Prop := fMer s e = s
theorem FIn.grow {s e : Int × Nat} (h : FIn s e) (x : Int × Nat) : FIn (fMer s x) e := by
  unfold FIn at *
  obtain ⟨s1, s2⟩ := s
  obtain ⟨e1, e2⟩ := e
  obtain ⟨x1, x2⟩ := x
  unfold fMer at *
  dsimp only at *
  by_cases h1 : s1 < e1
  · rw [if_pos h1] at h; simp at h; omega
  · rw [if_neg h1] at h
    by_cases h2 : s1 = e1
    · rw [if_pos h2] at h
      simp only [Prod.mk.injEq, true_and] at h
      subst h2
      by_cases h3 : s1 < x1
      · rw [if_pos h3]; dsimp only; rw [if_neg (by omega), if_neg (by omega)]
      · rw [if_neg h3]
        by_cases h4 : s1 = x1
        · rw [if_pos h4]; dsimp only; rw [if_neg (by omega), if_pos rfl, Nat.or_assoc, Nat.or_comm x2 e2, ← Nat.or_assoc, h]
        · rw [if_neg h4]; dsimp only; rw [if_neg (by omega), if_pos rfl, h]
    · by_cases h3 : s1 < x1
      · rw [if_pos h3]; dsimp only; rw [if_neg (by omega), if_neg (by omega)]
      · rw [if_neg h3]
        by_cases h4 : s1 = x1
        · rw [if_pos h4]; dsimp only; rw [if_neg (by omega), if_neg (by omega)]
        · rw [if_neg h4]; dsimp only; rw [if_neg (by omega), if_neg (by omega)]
theorem FIn.self (s x : Int × Nat) : FIn (fMer s x) x := by
  unfold FIn
  rw [fMer_assoc]
  congr 1
  unfold fMer
  rw [if_neg (by omega), if_pos rfl, Nat.or_self]
theorem fMer_ge {s x : Int × Nat} (h : -1 ≤ s.1) : -1 ≤ (fMer s x).1 := by
  unfold fMer
  (repeat' split) <;> first | omega | (dsimp only; omega)
theorem fAll_one (e : Nat × Nat) : fAll [e] = ((e.1 : Int), 2 ^ e.2) := by
  unfold fAll fNo
  rw [List.foldl_cons, List.foldl_nil]
  unfold fAdd
  rw [if_pos (by dsimp only; omega)]

theorem mtc_det {b : Nat → Nat} {len : Nat} {rs : List Rl} {ns : List Nd} {f g i a dp : Nat} {o p : Ot} (h : mtc b len rs ns f i a dp = some o) (k : mtc b len rs ns g i a dp = some p) : o = p := by
  have h1 := mtc_le h (Nat.le_max_left f g)
  have h2 := mtc_le k (Nat.le_max_right f g)
  rw [h1] at h2
  exact Option.some.inj h2

/-- What came of a run, as it is kept. -/
structure RsOk (r : Rs) (rule a : Nat) (o : Ot) : Prop where
  rule : r.rule = rule
  from_ : r.from_ = a
  to : r.to = toI o.to
  cnt : r.cnt = o.rn + 1
  tr : o.to.isSome = true → flL 0 r.inner = o.tr.map nI
structure Kc (K : Wc) (Br : Nat → Prop) : Prop where
  wf : WfR K.ns K.rs
  ru : ∀ i, i < K.ns.length → (nth K.ns i).kind = 3 → ruI K.rs (nth K.ns i) < K.rs.length
  ch : ∀ r, r < K.rs.length → (nth K.ns (isI K.rs r)).kind = 4
  sub : ∀ i, i < K.ns.length → ∀ j ∈ (nth K.ns i).subs, (nth K.ns j).kind = 4 → Br j
  inj : ∀ i j, i < K.ns.length → j < K.ns.length → Br i → Br j → K.br i = K.br j → i = j
  at_ : ∀ f i a dp o t, i < K.ns.length → a ≤ K.len → mtc K.b K.len K.rs K.ns f i a dp = some o → o.to = some t → a ≤ t ∧ t ≤ K.len
structure Inv (K : Wc) (Br : Nat → Prop) (s : Wt) : Prop where
  far : -1 ≤ s.far.1
  ent : ∀ e ∈ s.mem.ent, e.1.inp = K.inp → ∃ f o, mtc K.b K.len K.rs K.ns f (isI K.rs e.1.rule) e.1.place 0 = some o ∧ RsOk e.2 e.1.rule e.1.place o ∧ FIn s.far (fAll o.ev)
  kn : ∀ i a t, i < K.ns.length → a ≤ K.len → Br i → s.kn.getD (kIx K i a) none = some t → ∃ f o, mtc K.b K.len K.rs K.ns f i a 0 = some o ∧ o.rn = 0 ∧ o.tr = [] ∧ t = toI o.to ∧ FIn s.far (fAll o.ev)
  cnt : s.dn ≤ s.cnt
  hit : s.mem.hits = 0 ↔ s.dn = s.cnt
/-- One step of the machine beside the document's. -/
inductive Sm (K : Wc) (Br : Nat → Prop) (s : Wt) (o : Ot) (dp : Nat) (t : Int) (s' : Wt) : Prop
  | ok (inv : Inv K Br s') (cnt : s'.cnt = s.cnt + o.rn) (most : s'.cnt ≤ K.most) (to : t = toI o.to) (far : s'.far = fMer s.far (fAll o.ev)) (mt : ∃ l, s'.mt = s.mt ++ l ∧ (o.to.isSome = true → flL dp l = o.tr.map nI))
  | sp (inv : Inv K Br s') (cnt : K.most < s'.cnt) (most : K.most < s.cnt + o.rn)
theorem Sm.inv {K : Wc} {Br : Nat → Prop} {s : Wt} {o : Ot} {dp : Nat} {t : Int} {s' : Wt} (h : Sm K Br s o dp t s') : Inv K Br s' := by
  cases h with
  | ok a => exact a
  | sp a => exact a
/-- .. with what is cut. -/
structure Sk (K : Wc) (Br : Nat → Prop) (s : Wt) (o : Ot) (dp : Nat) (t : Int) (s' : Wt) : Prop where
  sm : Sm K Br s o dp t s'
  cut : s'.cnt ≤ K.most → o.to = none → s'.mt = s.mt
def StepM (K : Wc) (Br : Nat → Prop) (f : Nat) : Prop := ∀ i a dp o, i < K.ns.length → ((nth K.ns i).kind = 4 → Br i) → a ≤ K.len → mtc K.b K.len K.rs K.ns f i a dp = some o → ∀ g, f < g → ∀ s, Inv K Br s → ∃ t s', wM K g i a s = some (t, s') ∧ Sk K Br s o dp t s'
theorem wM_spent {K : Wc} {g i a : Nat} {s : Wt} (hg : 0 < g) (h : K.most < s.cnt) : wM K g i a s = some (-1, s) := by
  cases g with
  | zero => omega
  | succ g => rw [wM, if_pos h]
theorem wCh_spent {K : Wc} {g a : Nat} {s : Wt} (hg : 0 < g) (h : K.most < s.cnt) : ∀ l, wCh (fun j s => wM K g j a s) l s = some (-1, s)
  | [] => rfl
  | j :: l => by rw [wCh, wM_spent hg h]; simp only [if_true]; exact wCh_spent hg h l
theorem wSq_spent {K : Wc} {g : Nat} {s : Wt} (hg : 0 < g) (h : K.most < s.cnt) : ∀ l a, ∃ t, wSq (fun j a s => wM K g j a s) l a s = some (t, s)
  | [], a => ⟨_, rfl⟩
  | j :: l, a => by rw [wSq, wM_spent hg h]; simp
theorem wSt_spent {K : Wc} {g i : Nat} {s : Wt} (hg : 0 < g) (h : K.most < s.cnt) (q a : Nat) : wSt (fun a s => wM K g i a s) (q + 1) a s = some ((a : Int), s) := by
  rw [wSt, wM_spent hg h]; simp
theorem mtc_pos {b : Nat → Nat} {len : Nat} {rs : List Rl} {ns : List Nd} {f i a dp : Nat} {o : Ot} (h : mtc b len rs ns f i a dp = some o) : 0 < f := by
  cases f with
  | zero => cases h
  | succ f => omega

theorem wCh_sim {K : Wc} {Br : Nat → Prop} {f : Nat} (hS : StepM K Br f) {a dp : Nat} (ha : a ≤ K.len) : ∀ l o, (∀ j ∈ l, j < K.ns.length ∧ ((nth K.ns j).kind = 4 → Br j)) → chO (fun j => mtc K.b K.len K.rs K.ns f j a dp) l = some o → ∀ g, f < g → ∀ s, Inv K Br s → s.cnt ≤ K.most → ∃ t s', wCh (fun j s => wM K g j a s) l s = some (t, s') ∧ Sm K Br s o dp t s'
  | [], o, _, h, g, hg, s, hI, hm => by
    rw [chO] at h
    cases h
    exact ⟨-1, s, rfl, .ok hI rfl hm rfl (fMer_no hI.far).symm ⟨[], by simp, fun h => by cases h⟩⟩
  | j :: l, o, hl, h, g, hg, s, hI, hm => by
    rw [chO] at h
    cases hj : mtc K.b K.len K.rs K.ns f j a dp with
    | none => rw [hj] at h; cases h
    | some p =>
      rw [hj] at h
      simp only at h
      obtain ⟨t1, s1, h1, h2⟩ := hS j a dp p (hl j (List.mem_cons_self ..)).1 (hl j (List.mem_cons_self ..)).2 ha hj g hg s hI
      rw [wCh, h1]
      simp only
      have hgp : 0 < g := by have := mtc_pos hj; omega
      have hsm := h2.sm
      have hcut := h2.cut
      cases hsm with
      | sp inv cnt most =>
        have hor : s.cnt + p.rn ≤ s.cnt + o.rn := by
          split at h
          · cases h; omega
          · cases hc : chO (fun j => mtc K.b K.len K.rs K.ns f j a dp) l with
            | none => rw [hc] at h; cases h
            | some q => rw [hc] at h; cases h; dsimp only; omega
        by_cases ht : t1 = -1
        · rw [if_pos ht, wCh_spent hgp cnt l]
          exact ⟨_, _, rfl, .sp inv cnt (by omega)⟩
        · rw [if_neg ht]
          exact ⟨_, _, rfl, .sp inv cnt (by omega)⟩
      | ok inv cnt most to far mt =>
        cases hp : p.to with
        | some u =>
          rw [hp] at h
          simp only [Option.isSome_some, if_true] at h
          cases h
          rw [if_neg (by rw [to, toI_no, hp]; simp)]
          exact ⟨_, _, rfl, .ok inv cnt most to far mt⟩
        | none =>
          rw [hp] at h
          simp only [Option.isSome_none] at h
          rw [if_neg (by simp)] at h
          rw [if_pos (by rw [to, toI_no, hp])]
          cases hc : chO (fun j => mtc K.b K.len K.rs K.ns f j a dp) l with
          | none => rw [hc] at h; cases h
          | some q =>
            rw [hc] at h
            cases h
            obtain ⟨t2, s2, h3, h4⟩ := wCh_sim hS ha l q (fun j hj => hl j (List.mem_cons_of_mem _ hj)) hc g hg s1 inv most
            refine ⟨t2, s2, h3, ?_⟩
            cases h4 with
            | sp inv2 cnt2 most2 => exact .sp inv2 cnt2 (by dsimp only; omega)
            | ok inv2 cnt2 most2 to2 far2 mt2 =>
              refine .ok inv2 (by dsimp only; omega) most2 to2 ?_ ?_
              · dsimp only; rw [far2, far, fMer_assoc, fAll_app]
              · rw [hcut most hp] at mt2; exact mt2
theorem wSq_sim {K : Wc} {Br : Nat → Prop} (hK : Kc K Br) {f : Nat} (hS : StepM K Br f) {dp : Nat} : ∀ l a o, a ≤ K.len → (∀ j ∈ l, j < K.ns.length ∧ ((nth K.ns j).kind = 4 → Br j)) → sqO (fun j a => mtc K.b K.len K.rs K.ns f j a dp) l a = some o → ∀ g, f < g → ∀ s, Inv K Br s → s.cnt ≤ K.most → ∃ t s', wSq (fun j a s => wM K g j a s) l a s = some (t, s') ∧ Sm K Br s o dp t s'
  | [], a, o, ha, _, h, g, hg, s, hI, hm => by
    rw [sqO] at h
    cases h
    exact ⟨_, s, rfl, .ok hI rfl hm rfl (fMer_no hI.far).symm ⟨[], by simp, fun h => by simp [flL]⟩⟩
  | j :: l, a, o, ha, hl, h, g, hg, s, hI, hm => by
    rw [sqO] at h
    cases hj : mtc K.b K.len K.rs K.ns f j a dp with
    | none => rw [hj] at h; cases h
    | some p =>
      rw [hj] at h
      simp only at h
      obtain ⟨t1, s1, h1, h2⟩ := hS j a dp p (hl j (List.mem_cons_self ..)).1 (hl j (List.mem_cons_self ..)).2 ha hj g hg s hI
      rw [wSq, h1]
      simp only
      have hgp : 0 < g := by have := mtc_pos hj; omega
      have hsm := h2.sm
      cases hsm with
      | sp inv cnt most =>
        have hor : s.cnt + p.rn ≤ s.cnt + o.rn := by
          cases hp : p.to with
          | none => rw [hp] at h; cases h; simp
          | some u =>
            rw [hp] at h
            simp only at h
            cases hc : sqO (fun j a => mtc K.b K.len K.rs K.ns f j a dp) l u with
            | none => rw [hc] at h; cases h
            | some q => rw [hc] at h; cases h; dsimp only; omega
        by_cases ht : t1 = -1
        · rw [if_pos ht]
          exact ⟨_, _, rfl, .sp inv cnt (by omega)⟩
        · rw [if_neg ht]
          obtain ⟨t2, e2⟩ := wSq_spent hgp cnt l t1.toNat
          exact ⟨_, _, e2, .sp inv cnt (by omega)⟩
      | ok inv cnt most to far mt =>
        cases hp : p.to with
        | none =>
          rw [hp] at h
          cases h
          rw [if_pos (by rw [to, toI_no, hp])]
          obtain ⟨l1, e1, _⟩ := mt
          exact ⟨_, _, rfl, .ok inv cnt most rfl far ⟨l1, e1, fun h => by cases h⟩⟩
        | some u =>
          rw [hp] at h to mt
          simp only at h
          have hu := hK.at_ f j a dp p u (hl j (List.mem_cons_self ..)).1 ha hj hp
          rw [if_neg (by rw [to]; simp [toI]), to]
          have hun : (toI (some u)).toNat = u := by simp [toI]
          rw [hun]
          cases hc : sqO (fun j a => mtc K.b K.len K.rs K.ns f j a dp) l u with
          | none => rw [hc] at h; cases h
          | some q =>
            rw [hc] at h
            cases h
            obtain ⟨t2, s2, h3, h4⟩ := wSq_sim hK hS l u q hu.2 (fun j hj => hl j (List.mem_cons_of_mem _ hj)) hc g hg s1 inv most
            refine ⟨t2, s2, h3, ?_⟩
            cases h4 with
            | sp inv2 cnt2 most2 => exact .sp inv2 cnt2 (by dsimp only; omega)
            | ok inv2 cnt2 most2 to2 far2 mt2 =>
              obtain ⟨l1, e1, f1⟩ := mt
              obtain ⟨l2, e2, f2⟩ := mt2
              refine .ok inv2 (by dsimp only; omega) most2 to2 ?_ ⟨l1 ++ l2, by rw [e2, e1, List.append_assoc], ?_⟩
              · dsimp only; rw [far2, far, fMer_assoc, fAll_app]
              · intro hq
                dsimp only at hq ⊢
                rw [if_pos hq, flL_app, f1 rfl, f2 hq, List.map_append]
theorem wSt_sim {K : Wc} {Br : Nat → Prop} (hK : Kc K Br) {f : Nat} (hS : StepM K Br f) {dp i : Nat} (hi : i < K.ns.length) (hb : (nth K.ns i).kind = 4 → Br i) : ∀ q a o, a ≤ K.len → rpO (fun a => mtc K.b K.len K.rs K.ns f i a dp) q a = some o → ∀ g g', f < g → q < g' → ∀ s, Inv K Br s → s.cnt ≤ K.most → ∃ t s', wSt (fun a s => wM K g i a s) g' a s = some (t, s') ∧ Sm K Br s o dp t s'
  | 0, a, o, ha, h, g, g', hg, hg', s, hI, hm => by cases h
  | q + 1, a, o, ha, h, g, g', hg, hg', s, hI, hm => by
    rw [rpO] at h
    obtain ⟨g1, rfl⟩ : ∃ g1, g' = g1 + 1 := ⟨g' - 1, by omega⟩
    cases hj : mtc K.b K.len K.rs K.ns f i a dp with
    | none => rw [hj] at h; cases h
    | some p =>
      rw [hj] at h
      simp only at h
      obtain ⟨t1, s1, h1, h2⟩ := hS i a dp p hi hb ha hj g hg s hI
      rw [wSt, h1]
      simp only
      have hgp : 0 < g := by have := mtc_pos hj; omega
      have hsm := h2.sm
      have hcut := h2.cut
      cases hsm with
      | sp inv cnt most =>
        have hor : s.cnt + p.rn ≤ s.cnt + o.rn := by
          cases hp : p.to with
          | none => rw [hp] at h; cases h; simp
          | some u =>
            rw [hp] at h
            simp only at h
            cases hc : rpO (fun a => mtc K.b K.len K.rs K.ns f i a dp) q u with
            | none => rw [hc] at h; cases h
            | some q => rw [hc] at h; cases h; dsimp only; omega
        by_cases ht : t1 = -1
        · rw [if_pos ht]
          exact ⟨_, _, rfl, .sp inv cnt (by omega)⟩
        · rw [if_neg ht]
          obtain ⟨g2, rfl⟩ : ∃ g2, g1 = g2 + 1 := ⟨g1 - 1, by omega⟩
          rw [wSt_spent hgp cnt]
          exact ⟨_, _, rfl, .sp inv cnt (by omega)⟩
      | ok inv cnt most to far mt =>
        cases hp : p.to with
        | none =>
          rw [hp] at h
          cases h
          rw [if_pos (by rw [to, toI_no, hp])]
          exact ⟨_, _, rfl, .ok inv cnt most rfl far ⟨[], by rw [hcut most hp]; simp, fun h => by simp [flL]⟩⟩
        | some u =>
          rw [hp] at h to mt
          simp only at h
          have hu := hK.at_ f i a dp p u hi ha hj hp
          rw [if_neg (by rw [to]; simp [toI]), to]
          have hun : (toI (some u)).toNat = u := by simp [toI]
          rw [hun]
          cases hc : rpO (fun a => mtc K.b K.len K.rs K.ns f i a dp) q u with
          | none => rw [hc] at h; cases h
          | some q' =>
            rw [hc] at h
            cases h
            obtain ⟨t2, s2, h3, h4⟩ := wSt_sim hK hS hi hb q u q' hu.2 hc g g1 hg (by omega) s1 inv most
            refine ⟨t2, s2, h3, ?_⟩
            cases h4 with
            | sp inv2 cnt2 most2 => exact .sp inv2 cnt2 (by dsimp only; omega)
            | ok inv2 cnt2 most2 to2 far2 mt2 =>
              obtain ⟨l1, e1, f1⟩ := mt
              obtain ⟨l2, e2, f2⟩ := mt2
              refine .ok inv2 (by dsimp only; omega) most2 to2 ?_ ⟨l1 ++ l2, by rw [e2, e1, List.append_assoc], ?_⟩
              · dsimp only; rw [far2, far, fMer_assoc, fAll_app]
              · intro hq
                dsimp only at hq ⊢
                rw [flL_app, f1 rfl, f2 hq, List.map_append]

theorem mtc_base {b : Nat → Nat} {len : Nat} {rs : List Rl} {ns : List Nd} {f i a dp : Nat} {o : Ot} (h : mtc b len rs ns f i a dp = some o) : ∃ o0, mtc b len rs ns f i a 0 = some o0 ∧ o = shO dp o0 := by
  have h1 := mtc_sh (b := b) (len := len) (rs := rs) (ns := ns) dp f i a 0
  rw [Nat.zero_add, h] at h1
  cases h0 : mtc b len rs ns f i a 0 with
  | none => rw [h0] at h1; cases h1
  | some o0 => rw [h0] at h1; exact ⟨o0, rfl, Option.some.inj h1⟩
def runO (rule a dp : Nat) (o : Ot) : Ot := ⟨o.to, o.ev, o.rn + 1, match o.to with | some t => ⟨rule, a, t, dp⟩ :: o.tr | none => []⟩
theorem Inv.beg {K : Wc} {Br : Nat → Prop} {s : Wt} (h : Inv K Br s) : Inv K Br (wBeg s s.mem) := by
  refine ⟨h.far, h.ent, h.kn, ?_, ?_⟩
  · have := h.cnt; show s.dn + 1 ≤ s.cnt + 1; omega
  · have := h.hit; show s.mem.hits = 0 ↔ s.dn + 1 = s.cnt + 1; omega
theorem flR_eq (dp : Nat) (r : Rs) : flR dp r = ⟨r.rule, r.from_, r.to, dp⟩ :: flL (dp + 1) r.inner := by
  cases r with
  | mk a b c d e => rw [flR]; rfl
theorem RsOk.flat {r : Rs} {rule a dp : Nat} {o : Ot} (h : RsOk r rule a o) (hs : o.to.isSome = true) : flL dp [r] = (runO rule a dp (shO (dp + 1) o)).tr.map nI := by
  cases ht : o.to with
  | none => rw [ht] at hs; cases hs
  | some t =>
    simp only [flL, runO, shO, ht]
    have h2 := flL_sh (dp + 1) r.inner 0
    rw [Nat.zero_add, h.tr hs] at h2
    rw [flR_eq, h2, h.rule, h.from_, h.to, ht, List.map_cons, nI_sh]
    simp [toI, nI]
theorem wRun_sim {K : Wc} {Br : Nat → Prop} (hK : Kc K Br) {f : Nat} (hS : StepM K Br f) {rule a dp : Nat} (hr : rule < K.rs.length) (ha : a ≤ K.len) {o : Ot} (h : mtc K.b K.len K.rs K.ns (f + 1) (isI K.rs rule) a (dp + 1) = some o) : ∀ g, f < g → ∀ s, Inv K Br s → s.cnt ≤ K.most → ∃ t s', wRun K (fun j s => wM K g j a s) rule a s = some (t, s') ∧ Sm K Br s (runO rule a dp o) dp t s' := by
  intro g hg s hI hm
  have hir : isI K.rs rule < K.ns.length := by
    have := hK.wf.is K.rs[rule] (List.getElem_mem hr)
    unfold isI; simp [List.getD_eq_getElem?_getD, hr]; exact this
  obtain ⟨o0, h0, rfl⟩ := mtc_base h
  obtain ⟨e1, e2, e3⟩ := mFind_ent K.mc s.mem ⟨K.inp, rule, a⟩
  unfold wRun
  cases hf : mFind K.mc s.mem ⟨K.inp, rule, a⟩ with
  | mk q M =>
    rw [hf] at e1 e2 e3
    cases q with
    | some r =>
      simp only
      obtain ⟨h1, h2⟩ := e2 r rfl
      simp only at h2
      obtain ⟨f1, o1, h3, h4, h5⟩ := hI.ent _ h1 rfl
      have := mtc_det h0 h3
      subst this
      refine ⟨_, _, rfl, ?_⟩
      have hcnt : r.cnt = o0.rn + 1 := h4.cnt
      have hinv : Inv K Br { s with mem := M, cnt := s.cnt + r.cnt, mt := s.mt ++ [r] } := by
        refine ⟨hI.far, fun e he hk => hI.ent e (by rw [← e1]; exact he) hk, hI.kn, ?_, ?_⟩
        · have := hI.cnt; show s.dn ≤ s.cnt + r.cnt; omega
        · have := hI.cnt; show M.hits = 0 ↔ s.dn = s.cnt + r.cnt; omega
      have hrn : (runO rule a dp (shO (dp + 1) o0)).rn = o0.rn + 1 := rfl
      by_cases hsp : K.most < s.cnt + r.cnt
      · exact .sp hinv hsp (by rw [hrn]; omega)
      · refine .ok hinv (by rw [hrn]; show s.cnt + r.cnt = _; omega) (by show s.cnt + r.cnt ≤ _; omega) h4.to h5.symm ⟨[r], rfl, fun hs => h4.flat hs⟩
    | none =>
      have hM := e3 rfl
      simp only at hM ⊢
      subst hM
      have h' := h
      rw [mtc, if_neg (by rw [hK.ch rule hr]; omega), if_neg (by rw [hK.ch rule hr]; omega), if_pos (hK.ch rule hr)] at h'
      have hbm : (wBeg s s.mem).cnt = s.cnt + 1 := rfl
      have hrn : (runO rule a dp (shO (dp + 1) o0)).rn = o0.rn + 1 := rfl
      by_cases hb : s.cnt + 1 ≤ K.most
      · obtain ⟨t, s1, h1, h2⟩ := wCh_sim hS ha _ _ (fun j hj => ⟨Nat.lt_trans ((nth_ok hK.wf.wf hir).low j hj) hir, hK.sub _ hir j hj⟩) h' g hg (wBeg s s.mem) hI.beg (by rw [hbm]; exact hb)
        rw [h1]
        simp only
        refine ⟨_, _, rfl, ?_⟩
        cases h2 with
        | sp inv cnt most =>
          have hw : (wEnd K rule a s t s1).mem = s1.mem := by show (if K.most < s1.cnt then s1.mem else _) = _; rw [if_pos cnt]
          have hinv : Inv K Br (wEnd K rule a s t s1) := by
            refine ⟨inv.far, ?_, inv.kn, inv.cnt, ?_⟩
            · rw [hw]; exact inv.ent
            · rw [hw]; exact inv.hit
          exact .sp hinv cnt (by rw [hrn]; rw [hbm] at most; have : (shO (dp + 1) o0).rn = o0.rn := rfl; omega)
        | ok inv cnt most to far mt =>
          obtain ⟨l, el, fl⟩ := mt
          have hel : s1.mt = s.mt ++ l := el
          have hdr : s1.mt.drop s.mt.length = l := by rw [hel]; simp
          have htk : s1.mt.take s.mt.length = s.mt := by rw [hel]; simp
          have hc1 : s1.cnt = s.cnt + 1 + o0.rn := cnt
          have hro : RsOk (wRes rule a s t s1) rule a o0 := by
            refine ⟨rfl, rfl, to, by show s1.cnt - s.cnt = _; omega, fun hs => ?_⟩
            show flL 0 (s1.mt.drop s.mt.length) = o0.tr.map nI
            rw [hdr]
            have h6 := fl hs
            have h7 := flL_sh (dp + 1) l 0
            rw [Nat.zero_add] at h7
            rw [h7] at h6
            exact map_shI_inj (h6.trans (nI_sh _ _))
          have hw : (wEnd K rule a s t s1).mem = mKeep K.mc s1.mem ⟨K.inp, rule, a⟩ (wRes rule a s t s1) := by show (if K.most < s1.cnt then s1.mem else _) = _; rw [if_neg (by omega)]
          have hfar : s1.far = fMer s.far (fAll o0.ev) := far
          have hinv : Inv K Br (wEnd K rule a s t s1) := by
            refine ⟨inv.far, ?_, inv.kn, inv.cnt, ?_⟩
            · rw [hw]
              intro e he hk
              rcases (mKeep_ent _ _ _ _).1 e he with h8 | h8
              · exact inv.ent e h8 hk
              · subst h8
                refine ⟨_, o0, h0, hro, ?_⟩
                show FIn s1.far _
                rw [hfar]; exact FIn.self _ _
            · rw [hw, (mKeep_ent _ _ _ _).2]; exact inv.hit
          refine .ok hinv (by rw [hrn]; show s1.cnt = _; omega) most to hfar ⟨[wRes rule a s t s1], ?_, fun hs => hro.flat hs⟩
          show s1.mt.take s.mt.length ++ _ = _
          rw [htk]
      · have hgp : 0 < g := by omega
        rw [wCh_spent hgp (by rw [hbm]; omega)]
        simp only
        refine ⟨_, _, rfl, ?_⟩
        have hw : (wEnd K rule a s (-1) (wBeg s s.mem)).mem = s.mem := by show (if K.most < s.cnt + 1 then s.mem else _) = _; rw [if_pos (by omega)]
        have hb0 := hI.beg
        have hinv : Inv K Br (wEnd K rule a s (-1) (wBeg s s.mem)) := by
          refine ⟨hb0.far, ?_, hb0.kn, hb0.cnt, ?_⟩
          · rw [hw]; exact hI.ent
          · rw [hw]; exact hb0.hit
        exact .sp hinv (by show K.most < s.cnt + 1; omega) (by rw [hrn]; omega)

theorem wBr_sim {K : Wc} {Br : Nat → Prop} (hK : Kc K Br) {f : Nat} (hS : StepM K Br f) {i a dp : Nat} (hi : i < K.ns.length) (hb : Br i) (hk : (nth K.ns i).kind = 4) (ha : a ≤ K.len) {o : Ot} (hkl : ∀ s : Wt, True) (h : mtc K.b K.len K.rs K.ns (f + 1) i a dp = some o) : ∀ g, f < g → ∀ s, Inv K Br s → s.cnt ≤ K.most → ∃ t s', wBr K (fun j s => wM K g j a s) i a s = some (t, s') ∧ Sm K Br s o dp t s' := by
  intro g hg s hI hm
  obtain ⟨o0, h0, rfl⟩ := mtc_base h
  have h' := h
  rw [mtc, if_neg (by rw [hk]; omega), if_neg (by rw [hk]; omega), if_pos hk] at h'
  unfold wBr
  cases hq : s.kn.getD (kIx K i a) none with
  | some t =>
    simp only
    obtain ⟨f1, o1, h1, h2, h3, h4, h5⟩ := hI.kn i a t hi ha hb hq
    have := mtc_det h0 h1
    subst this
    refine ⟨_, _, rfl, .ok hI (by show s.cnt = s.cnt + o0.rn; omega) hm h4 h5.symm ⟨[], by simp, fun _ => ?_⟩⟩
    simp [flL, shO, h3]
  | none =>
    simp only
    obtain ⟨t, s1, h1, h2⟩ := wCh_sim hS ha _ _ (fun j hj => ⟨Nat.lt_trans ((nth_ok hK.wf.wf hi).low j hj) hi, hK.sub _ hi j hj⟩) h' g hg s hI hm
    rw [h1]
    simp only
    refine ⟨_, _, rfl, ?_⟩
    cases h2 with
    | sp inv cnt most =>
      rw [if_neg (by omega)]
      exact .sp inv cnt most
    | ok inv cnt most to far mt =>
      by_cases hc : s1.cnt = s.cnt
      · rw [if_pos hc]
        have hrn : o0.rn = 0 := by have h5 : s1.cnt = s.cnt + o0.rn := cnt; omega
        have htr : o0.tr = [] := by
          have := mtc_tr _ _ _ _ _ h0
          rw [hrn] at this
          exact List.eq_nil_of_length_eq_zero (by omega)
        refine .ok ⟨inv.far, inv.ent, ?_, inv.cnt, inv.hit⟩ cnt most to far mt
        intro i2 a2 t2 hi2 ha2 hb2 hq2
        by_cases he : i2 = i ∧ a2 = a
        · obtain ⟨rfl, rfl⟩ := he
          have ht2 : t = t2 := by
            simp only [List.getD_eq_getElem?_getD, List.getElem?_set] at hq2
            simp only [if_true] at hq2
            split at hq2
            · simpa using hq2
            · simp at hq2
          rw [← ht2]
          refine ⟨_, o0, h0, hrn, htr, to, ?_⟩
          show FIn s1.far _
          rw [far]; exact FIn.self _ _
        · have hne : kIx K i a ≠ kIx K i2 a2 := by
            intro e
            unfold kIx at e
            have hbr : K.br i = K.br i2 := by
              rcases Nat.lt_trichotomy (K.br i) (K.br i2) with hlt | heq | hlt
              · exfalso
                have h5 : (K.br i + 1) * (K.len + 1) ≤ K.br i2 * (K.len + 1) := Nat.mul_le_mul_right _ hlt
                rw [Nat.succ_mul] at h5
                omega
              · exact heq
              · exfalso
                have h5 : (K.br i2 + 1) * (K.len + 1) ≤ K.br i * (K.len + 1) := Nat.mul_le_mul_right _ hlt
                rw [Nat.succ_mul] at h5
                omega
            have h5 := hK.inj i i2 hi hi2 hb hb2 hbr
            subst h5
            exact he ⟨rfl, by omega⟩
          refine inv.kn i2 a2 t2 hi2 ha2 hb2 ?_
          simp only [List.getD_eq_getElem?_getD, List.getElem?_set_ne hne] at hq2 ⊢
          exact hq2
      · rw [if_neg hc]
        exact .ok inv cnt most to far mt
theorem Sm.cutS {K : Wc} {Br : Nat → Prop} {s : Wt} {o : Ot} {dp : Nat} {x : Int × Wt} (h : Sm K Br s o dp x.1 x.2) : Sk K Br s o dp (wCut s.mt.length x).1 (wCut s.mt.length x).2 := by
  obtain ⟨t, s'⟩ := x
  have hinv : ∀ n, Inv K Br s' → Inv K Br { s' with mt := s'.mt.take n } := fun n h => ⟨h.far, h.ent, h.kn, h.cnt, h.hit⟩
  unfold wCut
  dsimp only at h ⊢
  cases h with
  | sp inv cnt most =>
    by_cases ht : t = -1
    · rw [if_pos ht]
      exact ⟨.sp (hinv _ inv) cnt most, fun h => absurd h (by show ¬ s'.cnt ≤ _; omega)⟩
    · rw [if_neg ht]
      exact ⟨.sp inv cnt most, fun h => absurd h (by show ¬ s'.cnt ≤ _; omega)⟩
  | ok inv cnt most to far mt =>
    obtain ⟨l, e, fl⟩ := mt
    by_cases ht : t = -1
    · rw [if_pos ht]
      have hn := toI_no.1 (to ▸ ht)
      have htk : s'.mt.take s.mt.length = s.mt := by rw [e]; simp
      exact ⟨.ok (hinv _ inv) cnt most to far ⟨[], by simp [htk], fun h => by rw [hn] at h; cases h⟩, fun _ _ => htk⟩
    · rw [if_neg ht]
      exact ⟨.ok inv cnt most to far ⟨l, e, fl⟩, fun _ h => absurd (to.trans (toI_no.2 h)) ht⟩
theorem step_sim {K : Wc} {Br : Nat → Prop} (hK : Kc K Br) : ∀ f, StepM K Br f
  | 0 => fun i a dp o _ _ _ h => by cases h
  | f + 1 => by
    have hS := step_sim hK f
    intro i a dp o hi hb ha h g hg s hI
    obtain ⟨g, rfl⟩ : ∃ g1, g = g1 + 1 := ⟨g - 1, by omega⟩
    have hg' : f < g := by omega
    rw [wM]
    by_cases hm : K.most < s.cnt
    · rw [if_pos hm]
      exact ⟨_, _, rfl, .sp hI hm (by omega), fun h => absurd h (by omega)⟩
    rw [if_neg hm]
    have hm' : s.cnt ≤ K.most := by omega
    suffices hx : ∃ t s', wKd K (wM K g) g i a s = some (t, s') ∧ Sm K Br s o dp t s' by
      obtain ⟨t, s', h1, h2⟩ := hx
      rw [h1]
      have := Sm.cutS (x := (t, s')) h2
      exact ⟨_, _, rfl, this⟩
    have hok := nth_ok hK.wf.wf hi
    have hsub : ∀ j ∈ (nth K.ns i).subs, j < K.ns.length ∧ ((nth K.ns j).kind = 4 → Br j) := fun j hj => ⟨Nat.lt_trans (hok.low j hj) hi, hK.sub _ hi j hj⟩
    have h' := h
    unfold wKd
    rw [mtc] at h
    split at h
    · next k =>
      rw [if_pos k]
      cases h
      refine ⟨_, _, rfl, ?_⟩
      unfold tmO
      cases ht : tmT K.b K.len (nth K.ns i) a with
      | some t => exact .ok hI rfl hm' rfl (fMer_no hI.far).symm ⟨[], by simp, fun _ => by simp [flL]⟩
      | none =>
        have hfa : fAdd s.far (a, (nth K.ns i).term) = fMer s.far (fAll [(a, (nth K.ns i).term)]) := by rw [fAll_one, fAdd_mer]
        refine .ok ⟨?_, ?_, ?_, hI.cnt, hI.hit⟩ rfl hm' rfl hfa ⟨[], by simp, fun h => by cases h⟩
        · show -1 ≤ (fAdd s.far (a, (nth K.ns i).term)).1
          rw [hfa]; exact fMer_ge hI.far
        · intro e he hk
          obtain ⟨f1, o1, h1, h2, h3⟩ := hI.ent e he hk
          refine ⟨f1, o1, h1, h2, ?_⟩
          show FIn (fAdd s.far (a, (nth K.ns i).term)) _
          rw [hfa]; exact h3.grow _
        · intro i2 a2 t2 e1 e2 e3 e4
          obtain ⟨f1, o1, h1, h2, h3, h4, h5⟩ := hI.kn i2 a2 t2 e1 e2 e3 e4
          refine ⟨f1, o1, h1, h2, h3, h4, ?_⟩
          show FIn (fAdd s.far (a, (nth K.ns i).term)) _
          rw [hfa]; exact h5.grow _
    next k2 =>
    rw [if_neg k2]
    split at h
    · next k =>
      rw [if_pos k]
      cases hc : mtc K.b K.len K.rs K.ns f (isI K.rs (ruI K.rs (nth K.ns i))) a (dp + 1) with
      | none => rw [hc] at h; cases h
      | some p =>
        rw [hc] at h
        cases h
        obtain ⟨f0, rfl⟩ : ∃ f0, f = f0 + 1 := ⟨f - 1, by have := mtc_pos hc; omega⟩
        have hS0 := step_sim hK f0
        exact wRun_sim hK hS0 (hK.ru i hi k) ha hc g (by omega) s hI hm'
    next k3 =>
    rw [if_neg k3]
    split at h
    · next k =>
      rw [if_pos k]
      exact wBr_sim hK hS hi (hb k) k ha (fun _ => trivial) h' g hg' s hI hm'
    next k4 =>
    rw [if_neg k4]
    split at h
    · next k =>
      rw [if_pos k]
      exact wSq_sim hK hS _ a o ha hsub h g hg' s hI hm'
    next k5 =>
    rw [if_neg k5]
    have hx := sub0 hK.wf.wf hi (by omega)
    have hx0 := hsub ((nth K.ns i).subs.getD 0 0) (by rw [hx.1]; simp)
    generalize (nth K.ns i).subs.getD 0 0 = x at *
    split at h
    · next k =>
      rw [if_pos k]
      cases hc : mtc K.b K.len K.rs K.ns f x a dp with
      | none => rw [hc] at h; cases h
      | some p =>
        rw [hc] at h
        simp only [Option.map_some, Option.some.injEq] at h
        obtain ⟨t1, s1, h1, h2⟩ := hS x a dp p hx0.1 hx0.2 ha hc g hg' s hI
        rw [h1]
        simp only [Option.map_some]
        have hsm := h2.sm
        have hcut := h2.cut
        have hrn : o.rn = p.rn := by rw [← h]; split <;> rfl
        cases hsm with
        | sp inv cnt most =>
          split
          · exact ⟨_, _, rfl, .sp inv cnt (by omega)⟩
          · exact ⟨_, _, rfl, .sp inv cnt (by omega)⟩
        | ok inv cnt most to far mt =>
          cases hp : p.to with
          | none =>
            rw [if_pos (by rw [hp]; rfl)] at h
            rw [if_pos (by rw [to, hp]; rfl)]
            subst h
            exact ⟨_, _, rfl, .ok inv cnt most rfl far ⟨[], by rw [hcut most hp]; simp, fun _ => by simp [flL]⟩⟩
          | some u =>
            rw [if_neg (by rw [hp]; simp)] at h
            rw [if_neg (by rw [to, toI_no, hp]; simp)]
            subst h
            exact ⟨_, _, rfl, .ok inv cnt most to far mt⟩
    next k6 =>
    rw [if_neg k6]
    split at h
    · next k =>
      rw [if_pos k]
      exact wSt_sim hK hS hx0.1 hx0.2 f a o ha h g g hg' hg' s hI hm'
    next k7 =>
    rw [if_neg k7]
    split at h
    · next k =>
      rw [if_pos k]
      cases hc : mtc K.b K.len K.rs K.ns f x a dp with
      | none => rw [hc] at h; cases h
      | some p =>
        rw [hc] at h
        simp only at h
        obtain ⟨t1, s1, h1, h2⟩ := hS x a dp p hx0.1 hx0.2 ha hc g hg' s hI
        rw [h1]
        simp only
        have hsm := h2.sm
        have hgp : 0 < g := by omega
        cases hsm with
        | sp inv cnt most =>
          have hor : s.cnt + p.rn ≤ s.cnt + o.rn := by
            cases hp : p.to with
            | none => rw [hp] at h; cases h; simp
            | some u =>
              rw [hp] at h
              simp only at h
              cases hc : rpO (fun a => mtc K.b K.len K.rs K.ns f x a dp) f u with
              | none => rw [hc] at h; cases h
              | some q => rw [hc] at h; cases h; dsimp only; omega
          by_cases ht : t1 = -1
          · rw [if_pos ht]
            exact ⟨_, _, rfl, .sp inv cnt (by omega)⟩
          · rw [if_neg ht]
            obtain ⟨g2, hg2⟩ : ∃ g2, g = g2 + 1 := ⟨g - 1, by omega⟩
            have := wSt_spent (K := K) (i := x) hgp cnt g2 t1.toNat
            rw [← hg2] at this
            rw [this]
            exact ⟨_, _, rfl, .sp inv cnt (by omega)⟩
        | ok inv cnt most to far mt =>
          cases hp : p.to with
          | none =>
            rw [hp] at h
            cases h
            rw [if_pos (by rw [to, hp]; rfl)]
            obtain ⟨l1, e1, _⟩ := mt
            exact ⟨_, _, rfl, .ok inv cnt most rfl far ⟨l1, e1, fun h => by cases h⟩⟩
          | some u =>
            rw [hp] at h to mt
            simp only at h
            have hu := hK.at_ f x a dp p u hx0.1 ha hc hp
            rw [if_neg (by rw [to]; simp [toI]), to]
            have hun : (toI (some u)).toNat = u := by simp [toI]
            rw [hun]
            cases hc2 : rpO (fun a => mtc K.b K.len K.rs K.ns f x a dp) f u with
            | none => rw [hc2] at h; cases h
            | some q' =>
              rw [hc2] at h
              cases h
              obtain ⟨t2, s2, h3, h4⟩ := wSt_sim hK hS hx0.1 hx0.2 f u q' hu.2 hc2 g g hg' hg' s1 inv most
              refine ⟨t2, s2, h3, ?_⟩
              cases h4 with
              | sp inv2 cnt2 most2 => exact .sp inv2 cnt2 (by dsimp only; omega)
              | ok inv2 cnt2 most2 to2 far2 mt2 =>
                obtain ⟨l1, e1, f1⟩ := mt
                obtain ⟨l2, e2, f2⟩ := mt2
                refine .ok inv2 (by dsimp only; omega) most2 to2 ?_ ⟨l1 ++ l2, by rw [e2, e1, List.append_assoc], ?_⟩
                · dsimp only; rw [far2, far, fMer_assoc, fAll_app]
                · intro hq
                  dsimp only at hq ⊢
                  rw [flL_app, f1 rfl, f2 hq, List.map_append]
    next k8 =>
    rw [if_neg k8]
    cases hc : mtc K.b K.len K.rs K.ns f x a dp with
    | none => rw [hc] at h; cases h
    | some p =>
      rw [hc] at h
      simp only [Option.map_some, Option.some.injEq] at h
      subst h
      obtain ⟨t1, s1, h1, h2⟩ := hS x a dp p hx0.1 hx0.2 ha hc g hg' s hI
      rw [h1]
      simp only [Option.map_some]
      refine ⟨_, _, rfl, ?_⟩
      dsimp only
      have hsm := h2.sm
      cases hsm with
      | sp inv cnt most => exact .sp ⟨inv.far, inv.ent, inv.kn, inv.cnt, inv.hit⟩ cnt most
      | ok inv cnt most to far mt =>
        obtain ⟨l1, e1, _⟩ := mt
        refine .ok ⟨inv.far, inv.ent, inv.kn, inv.cnt, inv.hit⟩ cnt most ?_ far ⟨[], ?_, fun _ => by simp [flL]⟩
        · have hd : decide (t1 ≠ -1) = p.to.isSome := by
            rw [to]
            cases hp : p.to with
            | none => simp [toI]
            | some u => simp [toI]
          rw [hd]
          split <;> rfl
        · show s1.mt.take s.mt.length = s.mt ++ []
          rw [e1]; simp
end Go.Proofs.YtagklnaaoclmhaaGreatDoor
