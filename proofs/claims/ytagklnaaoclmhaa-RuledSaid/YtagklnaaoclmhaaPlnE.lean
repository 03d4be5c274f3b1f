import Derived.Test.YtagklnaaoclmhaaPlnA
set_option linter.unusedSimpArgs false
set_option linter.unusedVariables false
namespace Go.Proofs.Ytagklnaaoclmhaa
open Go.RowKit

/-- The places of the names among nodes. -/
def ats (l : List Nd) : List Nat := (l.filter (fun N => N.kind == 3)).map Nd.at_
theorem ats_app (l m : List Nd) : ats (l ++ m) = ats l ++ ats m := by simp [ats]
theorem ats_none {N : Nd} (h : N.kind ≠ 3) : ats [N] = [] := by simp [ats, h]

/-- From A to B: the names stand in order, between the two places. -/
structure Ord (A B : St) : Prop where
  ge : A.sc.at_ ≤ B.sc.at_
  ns : ∃ l, B.ns = A.ns ++ l ∧ (ats l).Pairwise (· < ·) ∧ ∀ a ∈ ats l, A.sc.at_ ≤ a ∧ a < B.sc.at_

theorem Ord.refl (A : St) : Ord A A := ⟨Nat.le_refl _, [], by simp, by simp [ats], by simp [ats]⟩
theorem Ord.trans {A B C : St} (h : Ord A B) (k : Ord B C) : Ord A C := by
  obtain ⟨l, h1, h2, h3⟩ := h.ns
  obtain ⟨m, k1, k2, k3⟩ := k.ns
  have hg := h.ge
  have kg := k.ge
  refine ⟨Nat.le_trans h.ge k.ge, l ++ m, by rw [k1, h1, List.append_assoc], ?_, ?_⟩
  · rw [ats_app, List.pairwise_append]
    refine ⟨h2, k2, fun a ha b hb => ?_⟩
    have := (h3 a ha).2
    have := (k3 b hb).1
    omega
  · intro a ha
    rw [ats_app] at ha
    rcases List.mem_append.1 ha with x | x
    · have := h3 a x; omega
    · have := k3 a x; omega
theorem Ord.sc {A B : St} (h : Ord A B) {g : Sc} (hg : B.sc.at_ ≤ g.at_) : Ord A { B with sc := g } := by
  obtain ⟨l, h1, h2, h3⟩ := h.ns
  exact ⟨Nat.le_trans h.ge hg, l, h1, h2, fun a ha => ⟨(h3 a ha).1, Nat.lt_of_lt_of_le (h3 a ha).2 hg⟩⟩
theorem Ord.pre {A B : St} {g : Sc} (hg : A.sc.at_ ≤ g.at_) (h : Ord { A with sc := g } B) : Ord A B := by
  obtain ⟨l, h1, h2, h3⟩ := h.ns
  exact ⟨Nat.le_trans hg h.ge, l, h1, h2, fun a ha => ⟨Nat.le_trans hg (h3 a ha).1, (h3 a ha).2⟩⟩
theorem Ord.add {A B : St} (h : Ord A B) {N : Nd} (hN : N.kind ≠ 3) : Ord A (addN B N).1 := by
  obtain ⟨l, h1, h2, h3⟩ := h.ns
  refine ⟨h.ge, l ++ [N], by show B.ns ++ [N] = _; rw [h1, List.append_assoc], ?_, ?_⟩
  · rw [ats_app, ats_none hN, List.append_nil]; exact h2
  · rw [ats_app, ats_none hN, List.append_nil]; exact h3

def OGood (s : ByteArray) (ch : St → St × Nat) (d : Nat) : Prop := ∀ A, Iv s A.sc → 5 ≤ A.sc.op + d → (ch A).1.sc.bad < 0 → Ord A (ch A).1

theorem Ord.plain {A : St} {g : Sc} {N : Nd} (hN : N.kind ≠ 3) (hg : A.sc.at_ ≤ g.at_) : Ord A (addN { A with sc := g } N).1 := ((Ord.refl A).sc hg).add hN

theorem part_ord {s : ByteArray} {ch : St → St × Nat} {d : Nat} (hg : d = 0 ∨ Good s ch (d - 1)) (ho : d = 0 ∨ OGood s ch (d - 1)) : OGood s (partM s ch) d := by
  intro A hi hd hb
  have hge := (part_fc (s := s) hg hi hd).ge
  have hbg := bl_ge s A.sc
  revert hge hb
  unfold partM
  split
  · intro hb hge
    have hw := (word_fs (s := s) (g := bl s A.sc) hi.bl).2.2 hb
    refine ⟨hge, [_], rfl, by simp [ats], fun a ha => ?_⟩
    simp [ats] at ha
    subst ha
    exact ⟨hbg, hw⟩
  · split
    · intro hb hge; exact Ord.plain (by simp [nd0]) hge
    · split
      · intro hb hge; exact Ord.plain (by simp [nd0]) hge
      · split
        · intro hb hge; exact Ord.plain (by simp [nd0]) hge
        · split
          · next hc =>
            intro hb hge
            have hop := bl_op s A.sc
            have hd0 : d ≠ 0 := by have := hc.2; omega
            have hpp := pk_pos (s := s) (g := bl s A.sc) (by omega)
            have hio : Iv s (opn (bl s A.sc)) := ⟨fun _ => by simp [opn]; omega, by simp [opn]; omega⟩
            have hd1 : 5 ≤ (opn (bl s A.sc)).op + (d - 1) := by dsimp only [opn]; omega
            have h1 := ho.resolve_left hd0 { A with sc := opn (bl s A.sc) } hio hd1
            have h2 := hg.resolve_left hd0 { A with sc := opn (bl s A.sc) } hio hd1
            generalize ch { A with sc := opn (bl s A.sc) } = X at *
            have hb2 : (mu s X.1.sc 41).bad < 0 := hb
            have hb3 := (Fs.mu h2.iv 41).good hb2
            have h3 := (h1 hb3).sc (g := shut (mu s X.1.sc 41)) (mu_ge s X.1.sc 41)
            exact Ord.pre (g := opn (bl s A.sc)) (by simp [opn]; omega) h3
          · intro hb hge
            exact Ord.plain (by simp [nd0]) hge

theorem item_ord {s : ByteArray} {ch : St → St × Nat} {d : Nat} (hg : d = 0 ∨ Good s ch (d - 1)) (ho : d = 0 ∨ OGood s ch (d - 1)) : OGood s (itemM s ch) d := by
  intro A hi hd hb
  obtain ⟨f1, f2, f3⟩ := aheadS_fs hi
  have hp := part_ord hg ho { A with sc := aheadS s A.sc } f1.iv (by rw [show ({ A with sc := aheadS s A.sc } : St).sc.op = A.sc.op from f1.op]; exact hd)
  revert hb
  unfold itemM
  generalize partM s ch { A with sc := aheadS s A.sc } = X at *
  have hr : (repM s X).1.sc.bad < 0 → Ord { A with sc := aheadS s A.sc } (repM s X).1 := by
    unfold repM
    have hbb := bl_bad s X.1.sc
    have hbg := bl_ge s X.1.sc
    split
    · next hk =>
      intro hb
      have hb' : (adv (bl s X.1.sc)).bad < 0 := hb
      have hX := hp (by rw [← hbb]; exact hb')
      have hk3 : kindOf (pk s (bl s X.1.sc)) ≠ 3 := by unfold kindOf; (repeat' split) <;> omega
      exact (hX.sc (g := adv (bl s X.1.sc)) (by rw [adv_at]; omega)).add (N := { nd0 with kind := kindOf (pk s (bl s X.1.sc)), subs := [X.2] }) hk3
    · intro hb
      have hb' : (bl s X.1.sc).bad < 0 := hb
      exact (hp (by rw [← hbb]; exact hb')).sc hbg
  generalize repM s X = R at *
  unfold aheadM
  split
  · next hk =>
    intro hb
    have hk3 : aheadK s A.sc ≠ 3 := by unfold aheadK; (repeat' split) <;> omega
    exact Ord.pre f1.ge ((hr hb).add (N := { nd0 with kind := aheadK s A.sc, subs := [R.2] }) hk3)
  · intro hb
    exact Ord.pre f1.ge (hr hb)

theorem seqF_ord {s : ByteArray} {ch : St → St × Nat} {d : Nat} (hg : d = 0 ∨ Good s ch (d - 1)) (ho : d = 0 ∨ OGood s ch (d - 1)) : ∀ f acc A, Iv s A.sc → 5 ≤ A.sc.op + d → (seqF s ch f acc A).1.sc.bad < 0 → Ord A (seqF s ch f acc A).1
  | 0, acc, A, _, _, _ => Ord.refl A
  | f + 1, acc, A, hi, hd, hb => by
    have hp := item_ord hg ho A hi hd
    have hf := item_fc (s := s) hg hi hd
    rw [seqF] at hb ⊢
    generalize itemM s ch A = X at *
    have hbb := bl_bad s X.1.sc
    have hbg := bl_ge s X.1.sc
    split
    · next hc =>
      rw [if_pos hc] at hb
      have hb' : (bl s X.1.sc).bad < 0 := hb
      exact (hp (by rw [← hbb]; exact hb')).sc hbg
    · next hc =>
      rw [if_neg hc] at hb
      have hgd : (bl s X.1.sc).bad < 0 := by
        have h1 : seqEnd s (bl s X.1.sc) = false := by simpa using hc
        unfold seqEnd at h1
        simp only [Bool.or_eq_false_iff, Bool.not_eq_false'] at h1
        exact (moreB_true.1 h1.1.1.1).1
      have h1 := (hp (by rw [← hbb]; exact hgd)).sc (g := bl s X.1.sc) hbg
      exact h1.trans (seqF_ord hg ho f _ _ hf.iv.bl (by rw [show ({ X.1 with sc := bl s X.1.sc } : St).sc.op = X.1.sc.op from bl_op s X.1.sc, hf.op]; exact hd) hb)
theorem seq_ord {s : ByteArray} {ch : St → St × Nat} {d : Nat} (hg : d = 0 ∨ Good s ch (d - 1)) (ho : d = 0 ∨ OGood s ch (d - 1)) : OGood s (seqM s ch) d := by
  intro A hi hd hb
  exact (seqF_ord hg ho (s.size + 3) [] A hi hd hb).add (N := { nd0 with kind := 5, subs := (seqF s ch (s.size + 3) [] A).2 }) (by simp)
theorem choF_ord {s : ByteArray} {ch : St → St × Nat} {d : Nat} (hg : d = 0 ∨ Good s ch (d - 1)) (ho : d = 0 ∨ OGood s ch (d - 1)) : ∀ f acc A, Iv s A.sc → 5 ≤ A.sc.op + d → (choF s ch f acc A).1.sc.bad < 0 → Ord A (choF s ch f acc A).1
  | 0, acc, A, _, _, _ => Ord.refl A
  | f + 1, acc, A, hi, hd, hb => by
    have hp := seq_ord hg ho A hi hd
    have hf := seq_fc (s := s) hg hi hd
    rw [choF] at hb ⊢
    generalize seqM s ch A = X at *
    have hbb := sg_bad s X.1.sc 47
    have hbg := sg_ge s X.1.sc 47
    split
    · next hc =>
      rw [if_pos hc] at hb
      have hgd : X.1.sc.bad < 0 := by
        rcases Int.lt_or_le X.1.sc.bad 0 with h | h
        · exact h
        · rw [sgB_bad 47 h] at hc; cases hc
      have h1 := (hp hgd).sc (g := sg s X.1.sc 47) hbg
      exact h1.trans (choF_ord hg ho f _ _ (hf.iv.sg 47) (by rw [show ({ X.1 with sc := sg s X.1.sc 47 } : St).sc.op = X.1.sc.op from sg_op s X.1.sc 47, hf.op]; exact hd) hb)
    · next hc =>
      rw [if_neg hc] at hb
      have hb' : (sg s X.1.sc 47).bad < 0 := hb
      exact (hp (by rw [← hbb]; exact hb')).sc hbg
theorem cho_ord {s : ByteArray} {ch : St → St × Nat} {d : Nat} (hg : d = 0 ∨ Good s ch (d - 1)) (ho : d = 0 ∨ OGood s ch (d - 1)) : OGood s (choM s ch) d := by
  intro A hi hd hb
  exact (choF_ord hg ho (s.size + 3) [] A hi hd hb).add (N := { nd0 with kind := 4, subs := (choF s ch (s.size + 3) [] A).2 }) (by simp)
theorem choD_ord (s : ByteArray) : ∀ d, OGood s (choD s (d + 1)) d
  | 0 => cho_ord (.inl rfl) (.inl rfl)
  | d + 1 => cho_ord (d := d + 1) (.inr (choD_good s d)) (.inr (choD_ord s d))

/-- Of a rule: its own name stands ahead of those in it. -/
theorem rule_ord {s : ByteArray} {X : St} (h : Ok s X) (ho : X.sc.op = 0) (hb : X.sc.bad < 0) (hg : (ruleM s X).1.sc.bad < 0) :
    X.sc.at_ ≤ (ruleM s X).2.at_ ∧ ∃ l, (ruleM s X).1.ns = X.ns ++ l ∧ (ats l).Pairwise (· < ·) ∧ (∀ a ∈ ats l, (ruleM s X).2.at_ < a ∧ a < (ruleM s X).1.sc.at_) ∧ (ruleM s X).2.at_ < (ruleM s X).1.sc.at_ := by
  obtain ⟨k1, -, -, k4, -⟩ := rule_ok h ho hb
  obtain ⟨w1, w2, w3⟩ := word_fs h.iv
  have hc := choD_good s 5 { X with sc := mu s (word s X.sc).2 61 } k1.iv (by rw [show ({ X with sc := mu s (word s X.sc).2 61 } : St).sc.op = 0 from k4]; decide)
  have hO := choD_ord s 5 { X with sc := mu s (word s X.sc).2 61 } k1.iv (by rw [show ({ X with sc := mu s (word s X.sc).2 61 } : St).sc.op = 0 from k4]; decide)
  have hw := word_len s X.sc
  have hmg := mu_ge s (word s X.sc).2 61
  have hbl := bl_ge s X.sc
  have hwd : (word s X.sc).2.at_ = (bl s X.sc).at_ + (word s X.sc).1.length ∧ ((word s X.sc).2.bad < 0 → 0 < (word s X.sc).1.length) := by
    have hh : ∀ f acc g, (wd s f acc g).2.at_ + acc.length = g.at_ + (wd s f acc g).1.length := by
      intro f
      induction f with
      | zero => intro acc g; rfl
      | succ f ih =>
        intro acc g
        rw [wd]
        split
        · split
          · show (wr g).at_ + _ = _
            rw [wr_at]
          · have := ih (acc ++ [(pk s g).toUInt8]) (adv g)
            rw [List.length_append, adv_at] at this
            simp only [List.length_cons, List.length_nil] at this
            omega
        · show (if acc = [] then wr g else g).at_ + _ = _
          split
          · rw [wr_at]
          · rfl
    have h1 : (word s X.sc).2.at_ = (bl s X.sc).at_ + (word s X.sc).1.length := by
      have := hh 10 [] (bl s X.sc)
      simp only [List.length_nil, Nat.add_zero] at this
      exact this
    refine ⟨h1, fun hx => ?_⟩
    have := (word_fs (s := s) (g := bl s X.sc) h.iv.bl).2.2
    have hid : word s (bl s X.sc) = word s X.sc := by
      unfold word
      have : bl s (bl s X.sc) = bl s X.sc := by
        have hbb : (bl s X.sc).bad < 0 := by rw [bl_bad]; exact hb
        by_cases hq : (bl s X.sc).at_ < s.size ∧ byteAt s (bl s X.sc).at_ = 32
        · exfalso
          have h1 : bl s X.sc = { X.sc with at_ := skipF s (s.size - X.sc.at_) X.sc.at_ } := by unfold bl; rw [if_pos hb]
          have key : ∀ f i, s.size ≤ i + f → ¬ (skipF s f i < s.size ∧ byteAt s (skipF s f i) = 32) := by
            intro f
            induction f with
            | zero => intro i h; simp only [skipF]; omega
            | succ f ih =>
              intro i h
              rw [skipF]
              split
              · exact ih (i + 1) (by omega)
              · next hn => exact hn
          rw [h1] at hq
          exact key (s.size - X.sc.at_) X.sc.at_ (by omega) hq
        · exact bl_eq (k := (bl s X.sc).at_) (fun _ => rfl) (fun _ => rfl) (fun _ x => hq x)
      rw [this]
    rw [hid] at this
    have := this hx
    omega
  have hX : ruleM s X = ({ (choD s (5 + 1) { X with sc := mu s (word s X.sc).2 61 }).1 with sc := mu s (choD s (5 + 1) { X with sc := mu s (word s X.sc).2 61 }).1.sc 10 }, ⟨(word s X.sc).1, (word s X.sc).2.at_ - (word s X.sc).1.length, (choD s (5 + 1) { X with sc := mu s (word s X.sc).2 61 }).2⟩) := rfl
  rw [hX] at hg ⊢
  generalize choD s (5 + 1) { X with sc := mu s (word s X.sc).2 61 } = Y at *
  have hg' : (mu s Y.1.sc 10).bad < 0 := hg
  have hb1 := (Fs.mu hc.iv 10).good hg'
  have hb2 : (mu s (word s X.sc).2 61).bad < 0 := hc.good hb1
  have hb3 : (word s X.sc).2.bad < 0 := (Fs.mu w1.iv 61).good hb2
  have hpos := hwd.2 hb3
  have hO2 := hO hb1
  obtain ⟨l, e1, e2, e3⟩ := hO2.ns
  have hge := hO2.ge
  have hm2 := mu_ge s Y.1.sc 10
  dsimp only at *
  refine ⟨by omega, l, e1, e2, fun a ha => ?_, by omega⟩
  have := e3 a ha
  omega
end Go.Proofs.Ytagklnaaoclmhaa
