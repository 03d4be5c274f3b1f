import Derived.Test.YtagklnaaoclmhaaRefF
set_option linter.unusedSimpArgs false
set_option linter.unusedVariables false
namespace Go.Proofs.Ytagklnaaoclmhaa

/-- A node of the ref's list. -/
structure Nd where
  kind : Nat
  text : List UInt8
  rng : List (Nat × Nat)
  term : Nat
  name : List UInt8
  at_ : Nat
  subs : List Nat

/-- The ref's grammar while it is read: its numbers, its nodes. -/
structure St where
  sc : Sc
  ns : List Nd

def addN (A : St) (N : Nd) : St × Nat := ({ A with ns := A.ns ++ [N] }, A.ns.length)

/-- A literal's bytes. -/
def litF (s : ByteArray) : Nat → List UInt8 → Sc → List UInt8 × Sc
  | 0, acc, g => (acc, g)
  | f + 1, acc, g => if g.bad < 0 ∧ pk s g ≠ 39 then litF s f (acc ++ [(inner s g barL 0).1.toUInt8]) (inner s g barL 0).2 else (acc, g)
def lit (s : ByteArray) (g : Sc) : List UInt8 × Sc := ((litF s (s.size + 2) [] g).1, adv (litF s (s.size + 2) [] g).2)

def nd0 : Nd := ⟨0, [], [], 0, [], 0, []⟩

def opn (g : Sc) : Sc := { g with at_ := g.at_ + 1, op := g.op + 1 }
def shut (g : Sc) : Sc := { g with op := g.op - 1 }

/-- part. -/
def partM (s : ByteArray) (ch : St → St × Nat) (A : St) : St × Nat :=
  if letterB (pk s (bl s A.sc)) then addN { A with sc := (word s (bl s A.sc)).2 } { nd0 with kind := 3, name := (word s (bl s A.sc)).1, at_ := (bl s A.sc).at_ }
  else if pk s (bl s A.sc) = 46 then addN { A with sc := tm (bl s A.sc) } { nd0 with kind := 2, term := (bl s A.sc).t }
  else if pk s (bl s A.sc) = 39 then addN { A with sc := (lit s (tm (bl s A.sc))).2 } { nd0 with kind := 0, text := (lit s (tm (bl s A.sc))).1, term := (bl s A.sc).t }
  else if pk s (bl s A.sc) = 91 then addN { A with sc := (set s (tm (bl s A.sc))).2 } { nd0 with kind := 1, rng := (set s (tm (bl s A.sc))).1, term := (bl s A.sc).t }
  else if pk s (bl s A.sc) = 40 ∧ (bl s A.sc).op < 5 then
    ({ (ch { A with sc := opn (bl s A.sc) }).1 with sc := shut (mu s (ch { A with sc := opn (bl s A.sc) }).1.sc 41) }, (ch { A with sc := opn (bl s A.sc) }).2)
  else addN { A with sc := wr (bl s A.sc) } nd0

/-- item, behind the part: what stands behind it. -/
def kindOf (c : Nat) : Nat := if c = 63 then 6 else if c = 42 then 7 else if c = 43 then 8 else 0
def aheadK (s : ByteArray) (g : Sc) : Nat := if sgB s g 38 then 9 else if sgB s (sg s g 38) 33 then 10 else 0
def aheadS (s : ByteArray) (g : Sc) : Sc := if sgB s g 38 then sg s g 38 else sg s (sg s g 38) 33
def repM (s : ByteArray) (X : St × Nat) : St × Nat :=
  if kindOf (pk s (bl s X.1.sc)) > 0 then addN { X.1 with sc := adv (bl s X.1.sc) } { nd0 with kind := kindOf (pk s (bl s X.1.sc)), subs := [X.2] }
  else ({ X.1 with sc := bl s X.1.sc }, X.2)
def aheadM (k : Nat) (X : St × Nat) : St × Nat := if k > 0 then addN X.1 { nd0 with kind := k, subs := [X.2] } else X
def itemM (s : ByteArray) (ch : St → St × Nat) (A : St) : St × Nat :=
  aheadM (aheadK s A.sc) (repM s (partM s ch { A with sc := aheadS s A.sc }))

/-- sequence. -/
def seqEnd (s : ByteArray) (g : Sc) : Bool := !moreB s g || pk s g == 10 || pk s g == 47 || (pk s g == 41 && decide (0 < g.op))
def seqF (s : ByteArray) (ch : St → St × Nat) : Nat → List Nat → St → St × List Nat
  | 0, acc, A => (A, acc)
  | f + 1, acc, A =>
    if seqEnd s (bl s (itemM s ch A).1.sc) then ({ (itemM s ch A).1 with sc := bl s (itemM s ch A).1.sc }, acc ++ [(itemM s ch A).2])
    else seqF s ch f (acc ++ [(itemM s ch A).2]) { (itemM s ch A).1 with sc := bl s (itemM s ch A).1.sc }
def seqM (s : ByteArray) (ch : St → St × Nat) (A : St) : St × Nat :=
  addN (seqF s ch (s.size + 3) [] A).1 { nd0 with kind := 5, subs := (seqF s ch (s.size + 3) [] A).2 }

/-- choice. -/
def choF (s : ByteArray) (ch : St → St × Nat) : Nat → List Nat → St → St × List Nat
  | 0, acc, A => (A, acc)
  | f + 1, acc, A =>
    if sgB s (seqM s ch A).1.sc 47 then choF s ch f (acc ++ [(seqM s ch A).2]) { (seqM s ch A).1 with sc := sg s (seqM s ch A).1.sc 47 }
    else ({ (seqM s ch A).1 with sc := sg s (seqM s ch A).1.sc 47 }, acc ++ [(seqM s ch A).2])
def choM (s : ByteArray) (ch : St → St × Nat) (A : St) : St × Nat :=
  addN (choF s ch (s.size + 3) [] A).1 { nd0 with kind := 4, subs := (choF s ch (s.size + 3) [] A).2 }
/-- choice, d brackets deep at most. -/
def choD (s : ByteArray) : Nat → St → St × Nat
  | 0 => fun A => addN A nd0
  | d + 1 => choM s (choD s d)

/-! What holds of them all. -/
def rest (s : ByteArray) (g : Sc) : Nat := if g.bad < 0 then s.size + 1 - g.at_ else 0
def Pt (s : ByteArray) (A : St) : Nat := A.ns.length + 4 * rest s A.sc

/-- From A to B: nothing goes back. k: what is gained where it began well, j: what is added else. -/
structure Fc (s : ByteArray) (A B : St) (k j : Nat) : Prop where
  iv : Iv s B.sc
  ge : A.sc.at_ ≤ B.sc.at_
  op : B.sc.op = A.sc.op
  t : A.sc.t ≤ B.sc.t
  tn : B.sc.t + A.ns.length ≤ A.sc.t + B.ns.length
  good : B.sc.bad < 0 → A.sc.bad < 0
  same : 0 ≤ A.sc.bad → B.sc = A.sc
  len : A.ns.length ≤ B.ns.length
  prog : B.sc.bad < 0 → A.sc.at_ < B.sc.at_
  pot : A.sc.bad < 0 → Pt s B + k ≤ Pt s A + 3
  pot' : Pt s B ≤ Pt s A + j

theorem rest_le {s : ByteArray} {g g' : Sc} (h : g'.bad < 0 → g.bad < 0) (ha : g.at_ ≤ g'.at_) : rest s g' ≤ rest s g := by
  unfold rest; split
  · next hb => rw [if_pos (h hb)]; omega
  · omega
theorem rest_lt {s : ByteArray} {g g' : Sc} (hi : Iv s g) (hb : g.bad < 0) (ha : g'.bad < 0 → g.at_ < g'.at_) : rest s g' + 1 ≤ rest s g := by
  have := hi.1 hb
  unfold rest; rw [if_pos hb]; split
  · next hb' => have := ha hb'; omega
  · omega

/-- Of the numbers alone. -/
structure Fs (s : ByteArray) (g h : Sc) : Prop where
  iv : Iv s h
  ge : g.at_ ≤ h.at_
  op : h.op = g.op
  good : h.bad < 0 → g.bad < 0
  same : 0 ≤ g.bad → h = g

theorem Fs.refl {s : ByteArray} {g : Sc} (h : Iv s g) : Fs s g g := ⟨h, Nat.le_refl _, rfl, id, fun _ => rfl⟩
theorem Fs.trans {s : ByteArray} {a b c : Sc} (h : Fs s a b) (k : Fs s b c) : Fs s a c :=
  ⟨k.iv, Nat.le_trans h.ge k.ge, k.op.trans h.op, fun x => h.good (k.good x), fun x => by have e := h.same x; rw [k.same (by rw [e]; exact x), e]⟩
theorem Fs.bl {s : ByteArray} {g : Sc} (h : Iv s g) : Fs s g (bl s g) := ⟨h.bl, bl_ge s g, bl_op s g, fun x => by rw [bl_bad] at x; exact x, fun x => bl_of_bad x⟩
theorem Fs.wr {s : ByteArray} {g : Sc} (h : Iv s g) : Fs s g (wr g) := ⟨h.wr, by rw [wr_at]; exact Nat.le_refl _, wr_op g, fun x => absurd x (by have := wr_bad g; omega), fun x => wr_of_bad x⟩
theorem Fs.sg {s : ByteArray} {g : Sc} (h : Iv s g) (c : Nat) : Fs s g (sg s g c) := ⟨h.sg c, sg_ge s g c, sg_op s g c, fun x => by rw [sg_bad] at x; exact x, fun x => sg_of_bad c x⟩
theorem Fs.mu {s : ByteArray} {g : Sc} (h : Iv s g) (c : Nat) : Fs s g (mu s g c) := ⟨h.mu c, mu_ge s g c, mu_op s g c, fun x => (mu_good x).2.1, fun x => mu_of_bad c x⟩
theorem Fs.rest {s : ByteArray} {g h : Sc} (f : Fs s g h) : rest s h ≤ rest s g := rest_le f.good f.ge

theorem letterB_pos {c : Nat} (h : letterB c = true) : 0 < c := by unfold letterB at h; simp at h; omega

theorem wd_facts {s : ByteArray} : ∀ f acc g, Iv s g → Iv s (wd s f acc g).2 ∧ g.at_ ≤ (wd s f acc g).2.at_ ∧ (wd s f acc g).2.op = g.op ∧ (wd s f acc g).2.t = g.t ∧ ((wd s f acc g).2.bad < 0 → g.bad < 0) ∧
    ((wd s f acc g).2.bad < 0 → 0 < f → acc = [] → g.at_ < (wd s f acc g).2.at_) ∧ (0 ≤ g.bad → 0 < f → (wd s f acc g).2 = g)
  | 0, acc, g, h => ⟨h, Nat.le_refl _, rfl, rfl, id, fun _ x => absurd x (by omega), fun _ x => absurd x (by omega)⟩
  | f + 1, acc, g, h => by
    rw [wd]
    have hw := wr_bad g
    cases hl : letterB (pk s g : Int)
    · simp only [Bool.false_eq_true, if_false]
      by_cases ha : acc = []
      · rw [if_pos ha]
        exact ⟨h.wr, by rw [wr_at]; exact Nat.le_refl _, wr_op g, wr_t g, fun x => absurd x (by omega), fun x => absurd x (by omega), fun x _ => wr_of_bad x⟩
      · rw [if_neg ha]
        exact ⟨h, Nat.le_refl _, rfl, rfl, id, fun _ _ x => absurd x ha, fun _ _ => rfl⟩
    · simp only [if_true]
      obtain ⟨p1, p2, p3⟩ := pk_pos (letterB_pos hl)
      by_cases h8 : acc.length = 8
      · rw [if_pos h8]
        exact ⟨h.wr, by rw [wr_at]; exact Nat.le_refl _, wr_op g, wr_t g, fun x => absurd x (by simp only; omega), fun x => absurd x (by simp only; omega), fun x _ => absurd x (by omega)⟩
      · rw [if_neg h8]
        obtain ⟨q1, q2, q3, q4, q5, q6, q7⟩ := wd_facts f (acc ++ [(pk s g).toUInt8]) (adv g) (h.adv p2)
        rw [adv_at] at q2
        exact ⟨q1, by omega, q3, q4, q5, fun _ _ _ => by omega, fun x _ => absurd x (by omega)⟩

theorem word_fs {s : ByteArray} {g : Sc} (h : Iv s g) : Fs s g (word s g).2 ∧ (word s g).2.t = g.t ∧ ((word s g).2.bad < 0 → g.at_ < (word s g).2.at_) := by
  obtain ⟨q1, q2, q3, q4, q5, q6, q7⟩ := wd_facts (s := s) 10 [] (bl s g) h.bl
  have hb := Fs.bl h
  refine ⟨⟨q1, Nat.le_trans hb.ge q2, q3.trans hb.op, fun x => hb.good (q5 x), fun x => ?_⟩, q4.trans (bl_t s g), fun x => ?_⟩
  · have e := hb.same x
    show (wd s 10 [] (Go.Proofs.Ytagklnaaoclmhaa.bl s g)).2 = g
    rw [q7 (by rw [e]; exact x) (by omega), e]
  · have := q6 x (by omega) rfl
    have := hb.ge
    show g.at_ < (wd s 10 [] (Go.Proofs.Ytagklnaaoclmhaa.bl s g)).2.at_
    omega

theorem tm_at (g : Sc) : (tm g).at_ = g.at_ + 1 := by unfold tm adv; split <;> simp [wr_at]
theorem tm_t (g : Sc) : (tm g).t = g.t + 1 := by unfold tm adv; split <;> rfl
theorem tm_op (g : Sc) : (tm g).op = g.op := by unfold tm adv; split <;> simp [wr_op]
theorem tm_good {g : Sc} (h : (tm g).bad < 0) : g.bad < 0 := by
  unfold tm adv at h; split at h
  · have := wr_bad g; simp only at h; omega
  · exact h
theorem tm_iv {s : ByteArray} {g : Sc} (h : Iv s g) (hp : g.at_ < s.size) : Iv s (tm g) := ⟨fun _ => by rw [tm_at]; omega, by rw [tm_at]; omega⟩

theorem litF_facts {s : ByteArray} : ∀ f acc g, Iv s g → rk s g < f → Iv s (litF s f acc g).2 ∧ g.at_ ≤ (litF s f acc g).2.at_ ∧ (litF s f acc g).2.op = g.op ∧ (litF s f acc g).2.t = g.t ∧ ((litF s f acc g).2.bad < 0 → g.bad < 0 ∧ pk s (litF s f acc g).2 = 39) ∧
    (litF s f acc g).1.length ≤ acc.length + rk s g
  | 0, acc, g, h, hr => absurd hr (by omega)
  | f + 1, acc, g, h, hr => by
    rw [litF]
    split
    · next hc =>
      obtain ⟨i1, i2, i3, i4, i5, i6⟩ := inner_facts h barL 0
      have hlt := rk_lt (g' := (inner s g barL 0).2) h hc.1 (fun x => (i6 x).2)
      obtain ⟨q1, q2, q3, q4, q5, q6⟩ := litF_facts f (acc ++ [(inner s g barL 0).1.toUInt8]) (inner s g barL 0).2 i1 (by omega)
      simp only [List.length_append, List.length_cons, List.length_nil] at q6
      exact ⟨q1, by omega, by rw [q3, i5], by rw [q4, i4], fun x => ⟨hc.1, (q5 x).2⟩, by omega⟩
    · next hc =>
      exact ⟨h, Nat.le_refl _, rfl, rfl, fun x => ⟨x, Decidable.byContradiction fun hn => hc ⟨x, hn⟩⟩, by simp only; omega⟩

theorem inner2_le {s : ByteArray} {g : Sc} (h : g.at_ ≤ s.size) (least : Nat) : (inner2 s g least).2.at_ ≤ s.size := by
  unfold inner2
  generalize (if byteAt s g.at_ = 110 then 10 else byteAt s g.at_) = v
  cases hm : moreB s g
  · simp only [if_true]; rw [wr_at]; exact h
  · have hm' := moreB_true.1 hm
    simp only [Bool.true_eq_false, if_false]
    split
    · simp only; rw [wr_at]; exact h
    · split
      · simp only; rw [wr_at]; exact h
      · simp only; rw [adv_at]; omega
theorem inner_le {s : ByteArray} {g : Sc} (h : g.at_ ≤ s.size) (l : List UInt8) (least : Nat) : (inner s g l least).2.at_ ≤ s.size := by
  unfold inner
  cases hm : moreB s g
  · simp only [if_true]; rw [wr_at]; exact h
  · have hm' := moreB_true.1 hm
    simp only [Bool.true_eq_false, if_false]
    split
    · split
      · simp only; rw [wr_at]; exact h
      · split
        · simp only; rw [wr_at]; exact h
        · simp only; rw [adv_at]; omega
    · split
      · simp only; rw [wr_at]; exact h
      · exact inner2_le (by rw [adv_at]; omega) least
theorem litF_le {s : ByteArray} : ∀ f acc g, g.at_ ≤ s.size → (litF s f acc g).2.at_ ≤ s.size
  | 0, acc, g, h => h
  | f + 1, acc, g, h => by
    rw [litF]; split
    · exact litF_le f _ _ (inner_le h _ _)
    · exact h
theorem setR_le {s : ByteArray} {g : Sc} (h : g.at_ ≤ s.size) : (setR s g).2.at_ ≤ s.size := by
  unfold setR; split
  · next h45 =>
    obtain ⟨p1, p2, p3⟩ := pk_pos (s := s) (g := (inner s g barC 0).2) (by omega)
    exact inner_le (by rw [adv_at]; omega) _ _
  · exact inner_le h _ _
theorem setF_le {s : ByteArray} : ∀ f fst g, g.at_ ≤ s.size → (setF s f fst g).2.at_ ≤ s.size
  | 0, _, g, h => h
  | f + 1, fst, g, h => by
    rw [setF]; split
    · exact setF_le f _ _ (setR_le h)
    · exact h
theorem setF_facts {s : ByteArray} : ∀ f fst g, Iv s g → rk s g < f → Iv s (setF s f fst g).2 ∧ g.at_ ≤ (setF s f fst g).2.at_ ∧ (setF s f fst g).2.op = g.op ∧ (setF s f fst g).2.t = g.t ∧ ((setF s f fst g).2.bad < 0 → g.bad < 0 ∧ pk s (setF s f fst g).2 = 93)
  | 0, fst, g, h, hr => absurd hr (by omega)
  | f + 1, fst, g, h, hr => by
    rw [setF]
    split
    · next hc =>
      obtain ⟨i1, i2, i3, i4, i5, i6, i7⟩ := setR_facts h
      have hlt := rk_lt (g' := (setR s g).2) h hc.1 (fun x => (i7 x).2)
      obtain ⟨q1, q2, q3, q4, q5⟩ := setF_facts f false (setR s g).2 i1 (by omega)
      exact ⟨q1, by simp only; omega, by rw [q3, i6], by rw [q4, i5], fun x => ⟨hc.1, (q5 x).2⟩⟩
    · next hc =>
      exact ⟨h, Nat.le_refl _, rfl, rfl, fun x => ⟨x, Decidable.byContradiction fun hn => hc ⟨x, Or.inr hn⟩⟩⟩

theorem lit_facts {s : ByteArray} {g : Sc} (h : Iv s g) (hm : g.at_ ≤ s.size) : Iv s (lit s g).2 ∧ g.at_ ≤ (lit s g).2.at_ ∧ (lit s g).2.op = g.op ∧ (lit s g).2.t = g.t ∧ ((lit s g).2.bad < 0 → g.bad < 0) := by
  have := rk_le s g
  obtain ⟨q1, q2, q3, q4, q5, q6⟩ := litF_facts (s := s) (s.size + 2) [] g h (by omega)
  have hl := litF_le (s := s) (s.size + 2) [] g hm
  unfold lit
  refine ⟨⟨fun x => ?_, by rw [adv_at]; omega⟩, by rw [adv_at]; omega, q3, q4, fun x => (q5 x).1⟩
  obtain ⟨p1, p2, p3⟩ := pk_pos (s := s) (g := (litF s (s.size + 2) [] g).2) (by have := (q5 x).2; omega)
  rw [adv_at]; omega
theorem set_facts {s : ByteArray} {g : Sc} (h : Iv s g) (hm : g.at_ ≤ s.size) : Iv s (set s g).2 ∧ g.at_ ≤ (set s g).2.at_ ∧ (set s g).2.op = g.op ∧ (set s g).2.t = g.t ∧ ((set s g).2.bad < 0 → g.bad < 0) := by
  have := rk_le s g
  obtain ⟨q1, q2, q3, q4, q5⟩ := setF_facts (s := s) (s.size + 2) true g h (by omega)
  have hl := setF_le (s := s) (s.size + 2) true g hm
  unfold set
  refine ⟨⟨fun x => ?_, by rw [adv_at]; omega⟩, by rw [adv_at]; omega, q3, q4, fun x => (q5 x).1⟩
  obtain ⟨p1, p2, p3⟩ := pk_pos (s := s) (g := (setF s (s.size + 2) true g).2) (by have := (q5 x).2; omega)
  rw [adv_at]; omega

/-- A good answer of ch. -/
def Good (s : ByteArray) (ch : St → St × Nat) (d : Nat) : Prop := ∀ A, Iv s A.sc → 5 ≤ A.sc.op + d → Fc s A (ch A).1 4 3

theorem Pt_add (s : ByteArray) (A : St) (g : Sc) (N : Nd) : Pt s (addN { A with sc := g } N).1 = A.ns.length + 1 + 4 * rest s g := by simp [Pt, addN]

/-- One node more, behind numbers that have moved on. -/
theorem Fc.one {s : ByteArray} {A : St} {g : Sc} (N : Nd) (hf : Fs s A.sc g) (hp : g.bad < 0 → A.sc.at_ < g.at_) (hi : Iv s A.sc) (ht : A.sc.t ≤ g.t) (ht' : g.t ≤ A.sc.t + 1) : Fc s A (addN { A with sc := g } N).1 6 1 where
  iv := hf.iv
  ge := hf.ge
  op := hf.op
  t := ht
  tn := by simp [addN]; omega
  good := hf.good
  same := hf.same
  len := by simp [addN]
  prog := hp
  pot := fun hb => by
    rw [Pt_add]; unfold Pt
    have := rest_lt (s := s) (g := A.sc) (g' := g) hi hb hp
    omega
  pot' := by rw [Pt_add]; unfold Pt; have := hf.rest; omega

theorem part_fc {s : ByteArray} {ch : St → St × Nat} {d : Nat} (hch : d = 0 ∨ Good s ch (d - 1)) {A : St} (hi : Iv s A.sc) (hd : 5 ≤ A.sc.op + d) : Fc s A (partM s ch A).1 6 1 := by
  have hb := Fs.bl hi
  unfold partM
  have hbt := bl_t s A.sc
  generalize bl s A.sc = g at *
  cases hl : letterB (pk s g : Int)
  · simp only [Bool.false_eq_true, if_false]
    split
    · next h46 =>
      obtain ⟨p1, p2, p3⟩ := pk_pos (s := s) (g := g) (by omega)
      refine Fc.one _ ⟨tm_iv hb.iv p2, by rw [tm_at]; have := hb.ge; omega, (tm_op g).trans hb.op, fun x => hb.good (tm_good x), fun x => absurd x (by have := hb.good p1; omega)⟩ (fun _ => by rw [tm_at]; have := hb.ge; omega) hi (by rw [tm_t]; omega) (by rw [tm_t]; omega)
    · split
      · next h39 =>
        obtain ⟨p1, p2, p3⟩ := pk_pos (s := s) (g := g) (by omega)
        obtain ⟨l1, l2, l3, l4, l5⟩ := lit_facts (tm_iv hb.iv p2) (by rw [tm_at]; omega)
        rw [tm_at] at l2
        refine Fc.one _ ⟨l1, by have := hb.ge; omega, l3.trans ((tm_op g).trans hb.op), fun x => hb.good (tm_good (l5 x)), fun x => absurd x (by have := hb.good p1; omega)⟩ (fun _ => by have := hb.ge; omega) hi (by rw [l4, tm_t]; omega) (by rw [l4, tm_t]; omega)
      · split
        · next h91 =>
          obtain ⟨p1, p2, p3⟩ := pk_pos (s := s) (g := g) (by omega)
          obtain ⟨l1, l2, l3, l4, l5⟩ := set_facts (tm_iv hb.iv p2) (by rw [tm_at]; omega)
          rw [tm_at] at l2
          refine Fc.one _ ⟨l1, by have := hb.ge; omega, l3.trans ((tm_op g).trans hb.op), fun x => hb.good (tm_good (l5 x)), fun x => absurd x (by have := hb.good p1; omega)⟩ (fun _ => by have := hb.ge; omega) hi (by rw [l4, tm_t]; omega) (by rw [l4, tm_t]; omega)
        · split
          · next h40 =>
            obtain ⟨p1, p2, p3⟩ := pk_pos (s := s) (g := g) (by omega)
            have hop := hb.op
            rcases hch with h0 | hch
            · omega
            · have hio : Iv s (opn g) := ⟨fun _ => by simp [opn]; omega, by simp [opn]; omega⟩
              have hc := hch { A with sc := opn g } hio (by simp [opn]; omega)
              generalize ch { A with sc := opn g } = X at *
              have hm := Fs.mu hc.iv 41
              have hmt := mu_t s X.1.sc 41
              have hge := hb.ge
              have h1 := hc.ge
              have h2 := hm.ge
              have h3 := hc.op
              have h4 := hm.op
              have h5 := hc.t
              have h6 := hc.tn
              have h7 := hc.len
              have h8 := hm.rest
              generalize Go.Proofs.Ytagklnaaoclmhaa.mu s X.1.sc 41 = m at *
              have hgood : A.sc.bad < 0 := hb.good p1
              have hpo := hc.pot p1
              have hpo' := hc.pot'
              have hr := rest_lt (s := s) (g := A.sc) (g' := opn g) hi hgood (fun _ => by simp [opn]; omega)
              have hsh : rest s (shut m) = rest s m := rfl
              simp only [opn, shut, Pt] at *
              exact { iv := hm.iv, ge := by simp only; omega, op := by simp only; omega, t := by simp only; omega, tn := by simp only; omega, good := fun _ => hgood, same := fun x => absurd x (by omega), len := h7, prog := fun _ => by simp only; omega, pot := fun _ => by simp only [Pt]; omega, pot' := by simp only [Pt]; omega }
          · have hf := hb.trans (Fs.wr hb.iv)
            have := wr_bad g
            exact Fc.one _ hf (fun x => absurd x (by omega)) hi (by rw [wr_t]; omega) (by rw [wr_t]; omega)
  · simp only [if_true]
    obtain ⟨w1, w2, w3⟩ := word_fs hb.iv
    exact Fc.one _ (hb.trans w1) (fun x => by have := w3 x; have := hb.ge; omega) hi (by rw [w2]; omega) (by rw [w2]; omega)

theorem aheadS_fs {s : ByteArray} {g : Sc} (h : Iv s g) : Fs s g (aheadS s g) ∧ (aheadS s g).t = g.t ∧ (0 < aheadK s g → g.bad < 0 ∧ g.at_ < (aheadS s g).at_ ∧ (aheadS s g).bad < 0) := by
  unfold aheadS aheadK
  cases h1 : sgB s g 38
  · simp only [Bool.false_eq_true, if_false]
    have f1 := Fs.sg h 38
    have f2 := Fs.sg f1.iv 33
    refine ⟨f1.trans f2, by rw [sg_t, sg_t], ?_⟩
    cases h2 : sgB s (sg s g 38) 33
    · simp
    · intro _
      obtain ⟨p1, p2⟩ := sgB_true h2
      rw [sg_bad] at p1
      refine ⟨p1, ?_, by rw [sg_bad, sg_bad]; exact p1⟩
      have := f1.ge
      have := bl_ge s (sg s g 38)
      rw [show sg s (sg s g 38) 33 = adv (bl s (sg s g 38)) by rw [sg.eq_1 s (sg s g 38), h2]; rfl, adv_at]
      omega
  · simp only [if_true]
    obtain ⟨p1, p2⟩ := sgB_true h1
    refine ⟨Fs.sg h 38, sg_t s g 38, fun _ => ⟨p1, ?_, by rw [sg_bad]; exact p1⟩⟩
    have := bl_ge s g
    rw [show sg s g 38 = adv (bl s g) by rw [sg.eq_1, h1]; rfl, adv_at]
    omega

theorem kindOf_pos {c : Nat} (h : kindOf c > 0) : 0 < c := by
  rcases Nat.eq_zero_or_pos c with rfl | hc
  · exact absurd h (by decide)
  · exact hc

/-- The numbers move on, no node comes. -/
theorem Fc.sc {s : ByteArray} {A B : St} {k j : Nat} (h : Fc s A B k j) {g : Sc} (hf : Fs s B.sc g) (ht : g.t = B.sc.t) : Fc s A { B with sc := g } k j where
  iv := hf.iv
  ge := Nat.le_trans h.ge hf.ge
  op := hf.op.trans h.op
  t := by rw [show ({ B with sc := g } : St).sc.t = g.t from rfl, ht]; exact h.t
  tn := by have := h.tn; simp only; omega
  good := fun x => h.good (hf.good x)
  same := fun x => by have e := h.same x; simp only; rw [hf.same (by rw [e]; exact x), e]
  len := h.len
  prog := fun x => Nat.lt_of_lt_of_le (h.prog (hf.good x)) hf.ge
  pot := fun x => by have := h.pot x; have := hf.rest; simp only [Pt] at *; omega
  pot' := by have := h.pot'; have := hf.rest; simp only [Pt] at *; omega

/-- One node more. -/
theorem Fc.node {s : ByteArray} {A B : St} {k j : Nat} (h : Fc s A B (k + 1) j) (N : Nd) : Fc s A (addN B N).1 k (j + 1) where
  iv := h.iv
  ge := h.ge
  op := h.op
  t := h.t
  tn := by have := h.tn; simp [addN]; omega
  good := h.good
  same := h.same
  len := by have := h.len; simp [addN]; omega
  prog := h.prog
  pot := fun x => by have := h.pot x; simp [Pt, addN] at *; omega
  pot' := by have := h.pot'; simp [Pt, addN] at *; omega

theorem item_fc {s : ByteArray} {ch : St → St × Nat} {d : Nat} (hch : d = 0 ∨ Good s ch (d - 1)) {A : St} (hi : Iv s A.sc) (hd : 5 ≤ A.sc.op + d) : Fc s A (itemM s ch A).1 6 1 := by
  obtain ⟨f0, t0, k0⟩ := aheadS_fs hi
  have hp := part_fc hch (A := { A with sc := aheadS s A.sc }) f0.iv (by have := f0.op; simp only; omega)
  unfold itemM
  generalize partM s ch { A with sc := aheadS s A.sc } = X at *
  generalize aheadS s A.sc = g at *
  generalize aheadK s A.sc = k at *
  -- behind the part
  have hr : Fc s { A with sc := g } (repM s X).1 6 1 := by
    unfold repM
    have hb := Fs.bl hp.iv
    have hbt := bl_t s X.1.sc
    split
    · next hk =>
      obtain ⟨p1, p2, p3⟩ := pk_pos (kindOf_pos hk)
      have hgood := hb.good p1
      have hpo := hp.pot'
      have hpo1 := hp.pot
      have hlt := rest_lt (s := s) (g := X.1.sc) (g' := adv (bl s X.1.sc)) hp.iv hgood (fun _ => by rw [adv_at]; have := hb.ge; omega)
      have hge := hb.ge
      have h1 := hp.ge
      have h2 := hp.tn
      have h3 := hp.t
      have h4 := hp.op
      have h5 := hb.op
      have h6 := hp.len
      have h7 := hp.prog hgood
      have h8 := hp.good hgood
      have hiv := hb.iv.adv p2
      generalize bl s X.1.sc = y at *
      dsimp only [addN, adv_at, adv_t, adv_op, Pt] at *
      refine ⟨hiv, ?_, ?_, ?_, ?_, fun _ => h8, fun x => absurd h8 (by dsimp only at x; omega), ?_, fun _ => ?_, fun x => ?_, ?_⟩ <;> dsimp only [addN, adv_at, adv_t, adv_op, Pt] <;> (try simp only [List.length_append, List.length_cons, List.length_nil]) <;> first | omega | (have := hpo1 x; omega)
    · exact hp.sc hb hbt
  generalize repM s X = R at *
  have hge := f0.ge
  have h1 := hr.ge
  have h2 := hr.tn
  have h3 := hr.t
  have h4 := hr.op
  have h5 := f0.op
  have h6 := hr.len
  have hrest := f0.rest
  have hpo' := hr.pot'
  have hpo := hr.pot
  have hpr := hr.prog
  have hgd := hr.good
  have hsm := hr.same
  have hiv := hr.iv
  have hA : A.sc.bad < 0 → 1 ≤ rest s A.sc := fun x => by have := hi.1 x; unfold rest; rw [if_pos x]; omega
  have hg0 : ¬ g.bad < 0 → rest s g = 0 := fun x => by unfold rest; rw [if_neg x]
  unfold aheadM
  dsimp only [Pt] at *
  split
  · next hk =>
    obtain ⟨hg1, hg2, hg3⟩ := k0 hk
    have hpo3 := hpo hg3
    have hlt := rest_lt (s := s) (g := A.sc) (g' := g) hi hg1 (fun _ => hg2)
    refine ⟨hiv, ?_, ?_, ?_, ?_, fun _ => hg1, fun x => absurd hg1 (by omega), ?_, fun _ => ?_, fun x => ?_, ?_⟩ <;> dsimp only [addN, Pt] <;> (try simp only [List.length_append, List.length_cons, List.length_nil]) <;> omega
  · refine ⟨hiv, ?_, ?_, ?_, ?_, fun x => f0.good (hgd x), fun x => ?_, ?_, fun x => ?_, fun x => ?_, ?_⟩
    · omega
    · omega
    · omega
    · omega
    · have e := f0.same x
      have := hsm (by rw [e]; exact x)
      rw [this]; exact e
    · omega
    · have := hpr x; omega
    · dsimp only [Pt]
      by_cases hgb : g.bad < 0
      · have := hpo hgb; omega
      · have := hg0 hgb; have := hA x; omega
    · dsimp only [Pt]; omega

theorem seqF_fc {s : ByteArray} {ch : St → St × Nat} {d : Nat} (hch : d = 0 ∨ Good s ch (d - 1)) : ∀ f acc A, Iv s A.sc → 5 ≤ A.sc.op + d → rk s A.sc < f →
    Fc s A (seqF s ch f acc A).1 6 1 ∧ (seqF s ch f acc A).2.length ≤ acc.length + rk s A.sc + 1
  | 0, acc, A, hi, hd, hr => absurd hr (by omega)
  | f + 1, acc, A, hi, hd, hr => by
    have hp := item_fc hch hi hd
    rw [seqF]
    generalize itemM s ch A = X at *
    have hb := Fs.bl hp.iv
    have h1 := hp.sc hb (bl_t s X.1.sc)
    generalize bl s X.1.sc = g at *
    split
    · exact ⟨h1, by simp <;> omega⟩
    · next hse =>
      have hm : moreB s g = true := by
        unfold seqEnd at hse
        cases h : moreB s g
        · simp [h] at hse
        · rfl
      have hg := (moreB_true.1 hm).1
      have hA : A.sc.bad < 0 := h1.good hg
      have hlt := rk_lt (g' := g) hi hA (fun x => h1.prog x)
      have hop := h1.op
      dsimp only at hop
      obtain ⟨q, ql⟩ := seqF_fc hch f (acc ++ [X.2]) { X.1 with sc := g } h1.iv (by dsimp only; omega) (by dsimp only; omega)
      generalize seqF s ch f (acc ++ [X.2]) { X.1 with sc := g } = Y at *
      simp only [List.length_append, List.length_cons, List.length_nil] at ql
      have a1 := h1.ge; have a2 := q.ge; have a3 := q.op; have a4 := h1.t; have a5 := q.t; have a6 := h1.tn; have a7 := q.tn; have a8 := h1.len; have a9 := q.len
      have b1 := h1.pot hA; have b2 := q.pot hg; have b3 := h1.pot'; have b4 := q.pot'
      dsimp only at *
      exact ⟨⟨q.iv, by omega, by omega, by omega, by omega, fun _ => hA, fun x => absurd hA (by omega), by omega, fun x => by have := q.prog x; dsimp only at this; omega, fun _ => by omega, by omega⟩, by omega⟩

theorem seq_fc {s : ByteArray} {ch : St → St × Nat} {d : Nat} (hch : d = 0 ∨ Good s ch (d - 1)) {A : St} (hi : Iv s A.sc) (hd : 5 ≤ A.sc.op + d) : Fc s A (seqM s ch A).1 5 2 :=
  (seqF_fc hch (s.size + 3) [] A hi hd (by have := rk_le s A.sc; omega)).1.node _

theorem choF_fc {s : ByteArray} {ch : St → St × Nat} {d : Nat} (hch : d = 0 ∨ Good s ch (d - 1)) : ∀ f acc A, Iv s A.sc → 5 ≤ A.sc.op + d → rk s A.sc < f →
    Fc s A (choF s ch f acc A).1 5 2 ∧ (choF s ch f acc A).2.length ≤ acc.length + rk s A.sc + 1
  | 0, acc, A, hi, hd, hr => absurd hr (by omega)
  | f + 1, acc, A, hi, hd, hr => by
    have hp := seq_fc hch hi hd
    rw [choF]
    generalize seqM s ch A = X at *
    have hb := Fs.sg hp.iv 47
    have h1 := hp.sc hb (sg_t s X.1.sc 47)
    split
    · next hsg =>
      have hX := (sgB_true hsg).1
      have hg : (sg s X.1.sc 47).bad < 0 := by rw [sg_bad]; exact hX
      generalize sg s X.1.sc 47 = g at *
      have hA : A.sc.bad < 0 := h1.good hg
      have hlt := rk_lt (g' := g) hi hA (fun x => h1.prog x)
      have hop := h1.op
      dsimp only at hop
      obtain ⟨q, ql⟩ := choF_fc hch f (acc ++ [X.2]) { X.1 with sc := g } h1.iv (by dsimp only; omega) (by dsimp only; omega)
      generalize choF s ch f (acc ++ [X.2]) { X.1 with sc := g } = Y at *
      simp only [List.length_append, List.length_cons, List.length_nil] at ql
      have a1 := h1.ge; have a2 := q.ge; have a3 := q.op; have a4 := h1.t; have a5 := q.t; have a6 := h1.tn; have a7 := q.tn; have a8 := h1.len; have a9 := q.len
      have b1 := h1.pot hA; have b2 := q.pot hg; have b3 := h1.pot'; have b4 := q.pot'
      dsimp only at *
      exact ⟨⟨q.iv, by omega, by omega, by omega, by omega, fun _ => hA, fun x => absurd hA (by omega), by omega, fun x => by have := q.prog x; dsimp only at this; omega, fun _ => by omega, by omega⟩, by omega⟩
    · exact ⟨h1, by simp <;> omega⟩

theorem cho_fc {s : ByteArray} {ch : St → St × Nat} {d : Nat} (hch : d = 0 ∨ Good s ch (d - 1)) {A : St} (hi : Iv s A.sc) (hd : 5 ≤ A.sc.op + d) : Fc s A (choM s ch A).1 4 3 :=
  (choF_fc hch (s.size + 3) [] A hi hd (by have := rk_le s A.sc; omega)).1.node _

theorem choD_good (s : ByteArray) : ∀ d, Good s (choD s (d + 1)) d
  | 0 => fun A hi hd => cho_fc (d := 0) (Or.inl rfl) hi hd
  | d + 1 => fun A hi hd => cho_fc (d := d + 1) (Or.inr (choD_good s d)) hi hd

end Go.Proofs.Ytagklnaaoclmhaa
