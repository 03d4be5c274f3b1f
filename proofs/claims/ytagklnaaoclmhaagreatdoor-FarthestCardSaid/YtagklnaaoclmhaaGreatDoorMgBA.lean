import Derived.Test.YtagklnaaoclmhaaGreatDoorMgAY
import Derived.Test.YtagklnaaoclmhaaGreatDoorMgAP
import Derived.Test.YtagklnaaoclmhaaGreatDoorMgAZ
import Derived.Test.YtagklnaaoclmhaaGreatDoorMgAG
set_option linter.unusedSimpArgs false
set_option linter.unusedVariables false
namespace Go.Proofs.YtagklnaaoclmhaaGreatDoor
open Go.RowKit

/-! How many terminals there are, and how long what a node holds. -/
structure Nsm (s : ByteArray) (N : Nd) : Prop where
  term : N.term < 40
  tx : N.text.length ≤ s.size + 2
  rl : N.rng.length ≤ s.size + 2
structure Tq (s : ByteArray) (A B : St) : Prop where
  t : A.sc.t ≤ 40 → B.sc.t ≤ 40
  ns : ∃ l, B.ns = A.ns ++ l ∧ (A.sc.t ≤ 40 → ∀ N ∈ l, Nsm s N)
theorem Tq.refl (s : ByteArray) (A : St) : Tq s A A := ⟨id, [], by simp, by simp⟩
theorem Tq.trans {s : ByteArray} {A B C : St} (h : Tq s A B) (k : Tq s B C) : Tq s A C := by
  obtain ⟨l, h1, h2⟩ := h.ns
  obtain ⟨m, k1, k2⟩ := k.ns
  refine ⟨fun x => k.t (h.t x), l ++ m, by rw [k1, h1, List.append_assoc], fun x N hN => ?_⟩
  rcases List.mem_append.1 hN with h3 | h3
  · exact h2 x N h3
  · exact k2 (h.t x) N h3
theorem Tq.sc {s : ByteArray} {A B : St} (h : Tq s A B) {g : Sc} (hg : g.t = B.sc.t) : Tq s A { B with sc := g } := by
  obtain ⟨l, h1, h2⟩ := h.ns
  exact ⟨fun x => by show g.t ≤ 40; rw [hg]; exact h.t x, l, h1, h2⟩
theorem Tq.pre {s : ByteArray} {A B : St} {g : Sc} (hg : g.t = A.sc.t) (h : Tq s { A with sc := g } B) : Tq s A B := by
  obtain ⟨l, h1, h2⟩ := h.ns
  exact ⟨fun x => h.t (by show g.t ≤ 40; rw [hg]; exact x), l, h1, fun x => h2 (by show g.t ≤ 40; rw [hg]; exact x)⟩
theorem Nsm.of {s : ByteArray} {N : Nd} (h1 : N.term = 0) (h2 : N.text = []) (h3 : N.rng = []) : Nsm s N := ⟨by omega, by rw [h2]; simp, by rw [h3]; simp⟩
theorem Tq.add {s : ByteArray} {A B : St} (h : Tq s A B) {N : Nd} (hN : Nsm s N) : Tq s A (addN B N).1 := by
  obtain ⟨l, h1, h2⟩ := h.ns
  refine ⟨h.t, l ++ [N], by show B.ns ++ [N] = _; rw [h1, List.append_assoc], fun x M hM => ?_⟩
  rcases List.mem_append.1 hM with h3 | h3
  · exact h2 x M h3
  · simp at h3; rw [h3]; exact hN
def TGood (s : ByteArray) (ch : St → St × Nat) (d : Nat) : Prop := ∀ A, Iv s A.sc → 5 ≤ A.sc.op + d → (ch A).1.sc.bad < 0 → Tq s A (ch A).1
theorem tm_40 {g : Sc} (h : (tm g).bad < 0) (ht : g.t ≤ 40) : g.t < 40 := by
  rcases Nat.lt_or_ge g.t 40 with h1 | h1
  · exact h1
  · have h2 : g.t = 40 := by omega
    unfold tm adv at h
    rw [if_pos h2] at h
    have := wr_bad g
    dsimp only at h
    omega
theorem litF_len {s : ByteArray} : ∀ f acc g, (litF s f acc g).1.length ≤ acc.length + f
  | 0, acc, g => by simp [litF]
  | f + 1, acc, g => by
    rw [litF]
    split
    · have := litF_len (s := s) f (acc ++ [(inner s g barL 0).1.toUInt8]) (inner s g barL 0).2
      rw [List.length_append] at this
      simp only [List.length_cons, List.length_nil] at this
      omega
    · simp
theorem setF_len {s : ByteArray} : ∀ f fst g, (setF s f fst g).1.length ≤ f
  | 0, fst, g => by simp [setF]
  | f + 1, fst, g => by
    rw [setF]
    split
    · have := setF_len (s := s) f false (setR s g).2
      simp; omega
    · simp
theorem Tq.term {s : ByteArray} {A : St} {g : Sc} {N : Nd} (hb : (tm (bl s A.sc)).bad < 0) (hg : g.t = A.sc.t + 1) (hN : N.term = (bl s A.sc).t) (h1 : N.text.length ≤ s.size + 2) (h2 : N.rng.length ≤ s.size + 2) : Tq s A (addN { A with sc := g } N).1 := by
  have hbt := bl_t s A.sc
  refine ⟨fun x => ?_, [N], rfl, fun x M hM => ?_⟩
  · have := tm_40 hb (by rw [hbt]; exact x)
    show g.t ≤ 40
    omega
  · simp at hM
    rw [hM]
    have := tm_40 hb (by rw [hbt]; exact x)
    exact ⟨by rw [hN]; exact this, h1, h2⟩

theorem part_tq {s : ByteArray} {ch : St → St × Nat} {d : Nat} (hg : d = 0 ∨ Good s ch (d - 1)) (ho : d = 0 ∨ TGood s ch (d - 1)) : TGood s (partM s ch) d := by
  intro A hi hd hb
  have hbt := bl_t s A.sc
  revert hb
  unfold partM
  split
  · intro hb
    have hw := (word_fs (s := s) (g := bl s A.sc) hi.bl).2.1
    exact ((Tq.refl s A).sc (g := (word s (bl s A.sc)).2) (hw.trans hbt)).add (Nsm.of rfl rfl rfl)
  · split
    · intro hb
      exact Tq.term hb (by rw [tm_t, hbt]) rfl (by simp [nd0]) (by simp [nd0])
    · split
      · next h39 =>
        intro hb
        obtain ⟨p1, p2, p3⟩ := pk_pos (s := s) (g := bl s A.sc) (by omega)
        obtain ⟨l1, l2, l3, l4, l5⟩ := lit_facts (tm_iv hi.bl p2) (by rw [tm_at]; omega)
        exact Tq.term (l5 hb) (by rw [l4, tm_t, hbt]) rfl (by
          have := litF_len (s := s) (s.size + 2) [] (tm (bl s A.sc))
          simpa [lit] using this) (by simp [nd0])
      · split
        · next h91 =>
          intro hb
          obtain ⟨p1, p2, p3⟩ := pk_pos (s := s) (g := bl s A.sc) (by omega)
          obtain ⟨l1, l2, l3, l4, l5⟩ := set_facts (tm_iv hi.bl p2) (by rw [tm_at]; omega)
          exact Tq.term (l5 hb) (by rw [l4, tm_t, hbt]) rfl (by simp [nd0]) (by
            have := setF_len (s := s) (s.size + 2) true (tm (bl s A.sc))
            simpa [set] using this)
        · split
          · next hc =>
            intro hb
            have hop := bl_op s A.sc
            have hd0 : d ≠ 0 := by have := hc.2; omega
            have hpp := pk_pos (s := s) (g := bl s A.sc) (by omega)
            have hio : Iv s (opn (bl s A.sc)) := ⟨fun _ => by simp [opn]; omega, by simp [opn]; omega⟩
            have hd1 : 5 ≤ (opn (bl s A.sc)).op + (d - 1) := by dsimp only [opn]; omega
            have h1 := ho.resolve_left hd0 { A with sc := opn (bl s A.sc) } hio hd1
            have h2 := hg.resolve_left hd0 { A with sc := opn (bl s A.sc) } hio hd1
            generalize ch { A with sc := opn (bl s A.sc) } = X at *
            have hb2 : (mu s X.1.sc 41).bad < 0 := hb
            have hb3 := (Fs.mu h2.iv 41).good hb2
            have h3 := (h1 hb3).sc (g := shut (mu s X.1.sc 41)) (mu_t s X.1.sc 41)
            exact Tq.pre (g := opn (bl s A.sc)) hbt h3
          · intro hb
            exact ((Tq.refl s A).sc (g := wr (bl s A.sc)) ((wr_t _).trans hbt)).add (Nsm.of rfl rfl rfl)

theorem item_tq {s : ByteArray} {ch : St → St × Nat} {d : Nat} (hg : d = 0 ∨ Good s ch (d - 1)) (ho : d = 0 ∨ TGood s ch (d - 1)) : TGood s (itemM s ch) d := by
  intro A hi hd hb
  obtain ⟨f1, f2, f3⟩ := aheadS_fs hi
  have hp := part_tq hg ho { A with sc := aheadS s A.sc } f1.iv (by rw [show ({ A with sc := aheadS s A.sc } : St).sc.op = A.sc.op from f1.op]; exact hd)
  revert hb
  unfold itemM
  generalize partM s ch { A with sc := aheadS s A.sc } = X at *
  have hr : (repM s X).1.sc.bad < 0 → Tq s { A with sc := aheadS s A.sc } (repM s X).1 := by
    unfold repM
    have hbb := bl_bad s X.1.sc
    have hbg := bl_t s X.1.sc
    split
    · next hk =>
      intro hb
      have hb' : (adv (bl s X.1.sc)).bad < 0 := hb
      have hX := hp (by rw [← hbb]; exact hb')
      exact (hX.sc (g := adv (bl s X.1.sc)) hbg).add (N := { nd0 with kind := kindOf (pk s (bl s X.1.sc)), subs := [X.2] }) (Nsm.of rfl rfl rfl)
    · intro hb
      have hb' : (bl s X.1.sc).bad < 0 := hb
      exact (hp (by rw [← hbb]; exact hb')).sc hbg
  generalize repM s X = R at *
  unfold aheadM
  split
  · next hk =>
    intro hb
    exact Tq.pre f2 ((hr hb).add (N := { nd0 with kind := aheadK s A.sc, subs := [R.2] }) (Nsm.of rfl rfl rfl))
  · intro hb
    exact Tq.pre f2 (hr hb)

theorem seqF_tq {s : ByteArray} {ch : St → St × Nat} {d : Nat} (hg : d = 0 ∨ Good s ch (d - 1)) (ho : d = 0 ∨ TGood s ch (d - 1)) : ∀ f acc A, Iv s A.sc → 5 ≤ A.sc.op + d → (seqF s ch f acc A).1.sc.bad < 0 → Tq s A (seqF s ch f acc A).1
  | 0, acc, A, _, _, _ => Tq.refl s A
  | f + 1, acc, A, hi, hd, hb => by
    have hp := item_tq hg ho A hi hd
    have hf := item_fc (s := s) hg hi hd
    rw [seqF] at hb ⊢
    generalize itemM s ch A = X at *
    have hbb := bl_bad s X.1.sc
    have hbg := bl_t s X.1.sc
    split
    · next hc =>
      rw [if_pos hc] at hb
      have hb' : (bl s X.1.sc).bad < 0 := hb
      exact (hp (by rw [← hbb]; exact hb')).sc hbg
    · next hc =>
      rw [if_neg hc] at hb
      have hgd : (bl s X.1.sc).bad < 0 := by
        have h1 : seqEnd s (bl s X.1.sc) = false := by simpa using hc
        unfold seqEnd at h1
        simp only [Bool.or_eq_false_iff, Bool.not_eq_false'] at h1
        exact (moreB_true.1 h1.1.1.1).1
      have h1 := (hp (by rw [← hbb]; exact hgd)).sc (g := bl s X.1.sc) hbg
      exact h1.trans (seqF_tq hg ho f _ _ hf.iv.bl (by rw [show ({ X.1 with sc := bl s X.1.sc } : St).sc.op = X.1.sc.op from bl_op s X.1.sc, hf.op]; exact hd) hb)
theorem seq_tq {s : ByteArray} {ch : St → St × Nat} {d : Nat} (hg : d = 0 ∨ Good s ch (d - 1)) (ho : d = 0 ∨ TGood s ch (d - 1)) : TGood s (seqM s ch) d := by
  intro A hi hd hb
  exact (seqF_tq hg ho (s.size + 3) [] A hi hd hb).add (N := { nd0 with kind := 5, subs := (seqF s ch (s.size + 3) [] A).2 }) (Nsm.of rfl rfl rfl)
theorem choF_tq {s : ByteArray} {ch : St → St × Nat} {d : Nat} (hg : d = 0 ∨ Good s ch (d - 1)) (ho : d = 0 ∨ TGood s ch (d - 1)) : ∀ f acc A, Iv s A.sc → 5 ≤ A.sc.op + d → (choF s ch f acc A).1.sc.bad < 0 → Tq s A (choF s ch f acc A).1
  | 0, acc, A, _, _, _ => Tq.refl s A
  | f + 1, acc, A, hi, hd, hb => by
    have hp := seq_tq hg ho A hi hd
    have hf := seq_fc (s := s) hg hi hd
    rw [choF] at hb ⊢
    generalize seqM s ch A = X at *
    have hbb := sg_bad s X.1.sc 47
    have hbg := sg_t s X.1.sc 47
    split
    · next hc =>
      rw [if_pos hc] at hb
      have hgd : X.1.sc.bad < 0 := by
        rcases Int.lt_or_le X.1.sc.bad 0 with h | h
        · exact h
        · rw [sgB_bad 47 h] at hc; cases hc
      have h1 := (hp hgd).sc (g := sg s X.1.sc 47) hbg
      exact h1.trans (choF_tq hg ho f _ _ (hf.iv.sg 47) (by rw [show ({ X.1 with sc := sg s X.1.sc 47 } : St).sc.op = X.1.sc.op from sg_op s X.1.sc 47, hf.op]; exact hd) hb)
    · next hc =>
      rw [if_neg hc] at hb
      have hb' : (sg s X.1.sc 47).bad < 0 := hb
      exact (hp (by rw [← hbb]; exact hb')).sc hbg
theorem cho_tq {s : ByteArray} {ch : St → St × Nat} {d : Nat} (hg : d = 0 ∨ Good s ch (d - 1)) (ho : d = 0 ∨ TGood s ch (d - 1)) : TGood s (choM s ch) d := by
  intro A hi hd hb
  exact (choF_tq hg ho (s.size + 3) [] A hi hd hb).add (N := { nd0 with kind := 4, subs := (choF s ch (s.size + 3) [] A).2 }) (Nsm.of rfl rfl rfl)
theorem choD_tq (s : ByteArray) : ∀ d, TGood s (choD s (d + 1)) d
  | 0 => cho_tq (.inl rfl) (.inl rfl)
  | d + 1 => cho_tq (d := d + 1) (.inr (choD_good s d)) (.inr (choD_tq s d))
theorem choD_kind (s : ByteArray) (d : Nat) (A : St) : (nth (choD s (d + 1) A).1.ns (choD s (d + 1) A).2).kind = 4 := by
  show (nth (choM s (choD s d) A).1.ns (choM s (choD s d) A).2).kind = 4
  unfold choM addN nth
  rw [List.getD_eq_getElem?_getD, List.getElem?_append_right (Nat.le_refl _)]
  simp
/-- What is told of what was read well. -/
structure RdQ (s : ByteArray) (X : St) (rs : List Rl) : Prop where
  ok : Ok s X
  op : X.sc.op = 0
  t : X.sc.t ≤ 40
  nd : ∀ N ∈ X.ns, Nsm s N
  ch : ∀ r ∈ rs, (nth X.ns r.is).kind = 4 ∧ r.is < X.ns.length
theorem rule_q {s : ByteArray} {X : St} {rs : List Rl} (h : RdQ s X rs) (hb : X.sc.bad < 0) (hg : (ruleM s X).1.sc.bad < 0) : RdQ s (ruleM s X).1 (rs ++ [(ruleM s X).2]) := by
  obtain ⟨k1, k2, k3, k4, k5⟩ := rule_ok h.ok h.op hb
  obtain ⟨w1, w2, w3⟩ := word_fs h.ok.iv
  have hop : 5 ≤ ({ X with sc := mu s (word s X.sc).2 61 } : St).sc.op + 5 := by omega
  have hc := choD_good s 5 { X with sc := mu s (word s X.sc).2 61 } k1.iv hop
  have hT := choD_tq s 5 { X with sc := mu s (word s X.sc).2 61 } k1.iv hop
  have hk := choD_kind s 5 { X with sc := mu s (word s X.sc).2 61 }
  have hw := choD_w s 6 { X with sc := mu s (word s X.sc).2 61 }
  have ht0 : ({ X with sc := mu s (word s X.sc).2 61 } : St).sc.t ≤ 40 := by show (mu s (word s X.sc).2 61).t ≤ 40; rw [mu_t, w2]; exact h.t
  refine ⟨k3, k2, ?_, ?_, ?_⟩
  all_goals
    revert hg
    unfold ruleM
    generalize choD s 6 { X with sc := mu s (word s X.sc).2 61 } = Y at *
    intro hg
    have hb2 : (mu s Y.1.sc 10).bad < 0 := hg
    have hb3 := (Fs.mu hc.iv 10).good hb2
    have hTq := hT hb3
    obtain ⟨l, hl1, hl2⟩ := hTq.ns
    have hl1' : Y.1.ns = X.ns ++ l := hl1
  · show (mu s Y.1.sc 10).t ≤ 40
    rw [mu_t]; exact hTq.t ht0
  · intro N hN
    have hN' : N ∈ Y.1.ns := hN
    rw [hl1'] at hN'
    rcases List.mem_append.1 hN' with h1 | h1
    · exact h.nd N h1
    · exact hl2 ht0 N h1
  · intro r hr
    rcases List.mem_append.1 hr with h1 | h1
    · obtain ⟨h2, h3⟩ := h.ch r h1
      show (nth Y.1.ns r.is).kind = 4 ∧ r.is < Y.1.ns.length
      rw [hl1']
      refine ⟨?_, by simp; omega⟩
      unfold nth at h2 ⊢
      rw [List.getD_eq_getElem?_getD, List.getElem?_append_left h3, ← List.getD_eq_getElem?_getD]
      exact h2
    · simp at h1
      subst h1
      refine ⟨hk, ?_⟩
      rcases Nat.lt_or_ge Y.2 Y.1.ns.length with h4 | h4
      · exact h4
      · have h5 : nth Y.1.ns Y.2 = nd0 := by unfold nth; rw [List.getD_eq_getElem?_getD, List.getElem?_eq_none h4]; rfl
        rw [h5] at hk; cases hk
theorem readF_bad {s : ByteArray} : ∀ f X rs, 0 ≤ X.sc.bad → (readF s f X rs).1.sc.bad = X.sc.bad
  | 0, X, rs, h => rfl
  | f + 1, X, rs, h => by rw [readF, if_neg (by omega)]
theorem readF_q {s : ByteArray} : ∀ f X rs, RdQ s X rs → (readF s f X rs).1.sc.bad < 0 → RdQ s (readF s f X rs).1 (readF s f X rs).2
  | 0, X, rs, h, _ => h
  | f + 1, X, rs, h, hb => by
    rw [readF] at hb ⊢
    split
    · next hc =>
      rw [if_pos hc] at hb
      split
      · next h8 =>
        rw [if_pos h8] at hb
        have hb' : (wr X.sc).bad < 0 := hb
        have := wr_bad X.sc
        omega
      · next h8 =>
        rw [if_neg h8] at hb
        refine readF_q f _ _ (rule_q h hc.1 ?_) hb
        rcases Int.lt_or_le (ruleM s X).1.sc.bad 0 with h1 | h1
        · exact h1
        · rw [readF_bad f _ _ h1] at hb; omega
    · exact h
theorem read_q {s : ByteArray} (hs : s.size ≤ 400) (hb : (read s).1.sc.bad < 0) : RdQ s (read s).1 (read s).2 := by
  refine readF_q 10 _ _ ⟨⟨⟨fun _ => by simp, by simp⟩, by simp, ?_, by simp, hs⟩, rfl, by simp, by simp, by simp⟩ hb
  simp [Pt, rest]; omega

theorem lst_ex {rs : List Rl} {ns : List Nd} (hW : WfR ns rs) (hN : ∀ N ∈ ns, N.kind = 3 → (fndI rs N.name).isSome = true) : ∀ n S, Grw rs ns S → 8 - cnt8 S ≤ n → ∃ S', Lst rs ns S'
  | n, S, h, hn => by
    by_cases he : ∀ i, i < rs.length → Fm rs ns S i = S i
    · exact ⟨S, h.lst he⟩
    · have hx : ∃ k, k < rs.length ∧ Fm rs ns S k ≠ S k := by
        apply Classical.byContradiction
        intro hc
        exact he (fun i hi => Classical.byContradiction fun h2 => hc ⟨i, hi, h2⟩)
      obtain ⟨k, hk, hne⟩ := hx
      have h8 := hW.len
      have hlt := cnt8_lt h.up ⟨k, by omega, hne⟩
      have hle := cnt8_le (Fm rs ns S)
      match n with
      | 0 => omega
      | n + 1 => exact lst_ex hW hN n (Fm rs ns S) (h.next hW hN) (by omega)
theorem ended_of {s : ByteArray} (h : refChk s = (0, 0)) : s.size ≤ 400 ∧ (read s).1.sc.bad < 0 ∧ ∃ S, Ended (read s).2 (read s).1.ns S := by
  unfold refChk at h
  split at h
  · cases h
  split at h
  · cases h
  split at h
  · cases h
  split at h
  · cases h
  next h1 h2 h3 h4 =>
  have hW := read_w s
  have hN := mis_named (rs := (read s).2) (ns := (read s).1.ns) (by omega)
  obtain ⟨S, hS⟩ := lst_ex hW hN 8 (fun _ => false) (Grw.none _ _) (by omega)
  refine ⟨by omega, by omega, S, hW, hN, hS, ?_⟩
  intro r
  induction r using Nat.strongRecOn with
  | _ r ih =>
    intro hr
    cases hc : cEnd (read s).2 (read s).1.ns S r with
    | false => rfl
    | true =>
      have := endless_at hW hN hS hr (fun u hu => ih u hu (by omega)) hc
      omega
end Go.Proofs.YtagklnaaoclmhaaGreatDoor

namespace Go.Proofs.YtagklnaaoclmhaaGreatDoor
open Go.RowKit

theorem info311 : (Tryz.prog.info? 311).map (fun i => (i.zero, i.size, i.bytes)) = some (some (.agg #[.bool false, .int .i64 0]), 2, 16) := by kernel_rfl
theorem knC_none : ∀ n, (knC (List.replicate n none)).toList = (List.range (n * 2)).map (fun j => #[Value.bool false, Value.int .i64 0][j % 2]!)
  | 0 => rfl
  | n + 1 => by
    have h1 : (knC (List.replicate (n + 1) none)).toList = (knC (List.replicate n none)).toList ++ [.bool false, .int .i64 0] := by
      unfold knC
      rw [List.replicate_succ']
      simp [kn1]
    rw [h1, knC_none n, show (n + 1) * 2 = n * 2 + 1 + 1 by omega, List.range_succ, List.range_succ]
    simp
theorem mkK (W : World) (n : Nat) (hn : n ≤ 400000) : (Instr.makeSlice 156 (.int .i64 (n : Int)) (.int .i64 (n : Int))).run Tryz.prog W = .ok (.slice (some ⟨W.heap.size, 0, none⟩) n n) (W.alloc (.cells (knC (List.replicate n none)) 311)) := by
  obtain ⟨i0, hi0, hz0, hz1, hz2⟩ := info_parts info311
  have hr := run_make (P := Tryz.prog) W 156 311 i0 _ Tryz.underlying156 hi0 hz0 .i64 .i64 n n (by omega) (Int.le_refl _) (by rw [hz2]; omega) (by omega)
  rw [hr]
  simp only [Int.toNat_natCast, hz1]
  have : madeCells (Value.agg #[.bool false, .int .i64 0]).cells (n * 2) = knC (List.replicate n none) := by
    apply Array.ext'
    rw [knC_none]
    have hz : (Value.agg #[.bool false, .int .i64 0]).cells = #[.bool false, .int .i64 0] := rfl
    rw [hz]
    unfold madeCells
    simp
  rw [this]

structure GdOut (pol bud mask nr runs gb : Nat) (R : Nat → Rs → Prop) (w : World) (e : Ending) (w' : World) : Prop where
  res : ∃ gd mb eb ob, e = .returned (.pointer (some ⟨gd, 0, none⟩)) ∧ w'.heap[gd]? = some (.cells #[ptB' gb, .int .i64 (runs : Int), ptB' mb] 152 (0, 0)) ∧ MmI w' (w.heap.size + 1) mb eb ob [] (mcOf pol bud mask nr) R (ms0 bud)
  kept : Kept (fun _ => False) w w'
set_option maxRecDepth 100000 in
set_option maxHeartbeats 1600000 in
theorem ground_any (pol bud mask nr runs gb : Nat) (rp : Option Addr) (rc : Nat) (R : Nat → Rs → Prop) (w : World) (hp : pol ≤ 2) (hb : bud ≤ 1000) (hm : mask ≤ 255) (hn : nr ≤ 8) (hg : w.cell? ⟨gb, 0, none⟩ = some (.slice rp nr rc)) :
    Calls Tryz.prog 48 #[.pointer (some ⟨gb, 0, none⟩), .agg #[.int .i64 (pol : Int), .int .i64 (bud : Int), .int .i64 (mask : Int), .int .i64 (runs : Int)]] w fun e w' => GdOut pol bud mask nr runs gb R w e w' := by
  have hgl := lt_cell hg
  obtain ⟨wa, hwa⟩ : ∃ wa, wa = w.alloc (.cells #[.int .i64 (pol : Int), .int .i64 (bud : Int), .int .i64 (mask : Int), .int .i64 (runs : Int)] 23) := ⟨_, rfl⟩
  have hKa : Kept (fun _ => False) w wa := by rw [hwa]; exact (Kept.refl _ w).alloc _
  have hab : wa.heap[w.heap.size]? = some (.cells #[.int .i64 (pol : Int), .int .i64 (bud : Int), .int .i64 (mask : Int), .int .i64 (runs : Int)] 23 (0, 0)) := by rw [hwa]; exact heap_alloc_new _ _
  have hg' : wa.cell? ⟨gb, 0, none⟩ = some (.slice rp nr rc) := (hKa.cell (p := ⟨gb, 0, none⟩) hgl (fun x => x)).trans hg
  have a0 : wa.cell? ⟨w.heap.size, 0, none⟩ = some (.int .i64 (pol : Int)) := by simp [World.cell?, hab]
  have a1 : wa.cell? ⟨w.heap.size, 1, none⟩ = some (.int .i64 (bud : Int)) := by simp [World.cell?, hab]
  have a2 : wa.cell? ⟨w.heap.size, 2, none⟩ = some (.int .i64 (mask : Int)) := by simp [World.cell?, hab]
  have a3 : wa.cell? ⟨w.heap.size, 3, none⟩ = some (.int .i64 (runs : Int)) := by simp [World.cell?, hab]
  have hnew := new_any pol bud mask nr (runs : Int) R wa.drew hp hb hm hn
  have hsz : Hid (wa.drew.heap.size = w.heap.size + 1) := by unfold Hid; show wa.heap.size = _; rw [hwa]; simp
  have hck : ∀ W, Kept (fun _ => False) wa.drew W → W.cell? ⟨gb, 0, none⟩ = some (.slice rp nr rc) ∧ W.cell? ⟨w.heap.size, 0, none⟩ = some (.int .i64 (pol : Int)) ∧ W.cell? ⟨w.heap.size, 1, none⟩ = some (.int .i64 (bud : Int)) ∧ W.cell? ⟨w.heap.size, 2, none⟩ = some (.int .i64 (mask : Int)) ∧ W.cell? ⟨w.heap.size, 3, none⟩ = some (.int .i64 (runs : Int)) := fun W hW => by
    have hW' := (Kept.refl (fun _ => False) wa).drew.trans hW
    exact ⟨(hW'.cell (p := ⟨gb, 0, none⟩) (lt_cell hg') (fun x => x)).trans hg', (hW'.cell (p := ⟨w.heap.size, 0, none⟩) (lt_cell a0) (fun x => x)).trans a0, (hW'.cell (p := ⟨w.heap.size, 1, none⟩) (lt_cell a1) (fun x => x)).trans a1, (hW'.cell (p := ⟨w.heap.size, 2, none⟩) (lt_cell a2) (fun x => x)).trans a2, (hW'.cell (p := ⟨w.heap.size, 3, none⟩) (lt_cell a3) (fun x => x)).trans a3⟩
  unfold ptB' at *
  go_enter Tryz.func48, Tryz.ntmps48
  go_wp2_with fail
  rw [← hwa]
  clear hwa
  go_region_held3 (fun w' => w'.cell? ⟨gb, 0, none⟩ = some (.slice rp nr rc) ∧ w'.cell? ⟨w.heap.size, 0, none⟩ = some (.int .i64 (pol : Int)) ∧ w'.cell? ⟨w.heap.size, 1, none⟩ = some (.int .i64 (bud : Int)) ∧ w'.cell? ⟨w.heap.size, 2, none⟩ = some (.int .i64 (mask : Int)) ∧ w'.cell? ⟨w.heap.size, 3, none⟩ = some (.int .i64 (runs : Int))) (go_keep) ((go_at_call 71; refine hnew.mono ?_; rintro e w2 ⟨⟨mb, eb, ob, rfl, hM⟩, hK2⟩; obtain ⟨x0, x1, x2, x3, x4⟩ := hck w2 hK2; unfold ptB'))
  go_wp2
  go_ret
  have hK : Kept (fun _ => False) w w2 := hKa.trans ((Kept.refl (fun _ => False) wa).drew.trans hK2)
  refine ⟨⟨_, mb, eb, ob, rfl, ?_, ?_⟩, hK.alloc _⟩
  · exact heap_alloc_new _ _
  · rw [hsz.out] at hM
    exact hM.kept ((Kept.refl (fun _ => False) w2).alloc _) (fun j x => x.elim)
end Go.Proofs.YtagklnaaoclmhaaGreatDoor

namespace Go.Proofs.YtagklnaaoclmhaaGreatDoor
open Go.RowKit

/-! A whole parse by the machine. -/
theorem wRun_one {K : Wc} {step : Nat → Wt → Option (Int × Wt)} {rule a : Nat} {s : Wt} {t : Int} {s' : Wt} (hm : s.mt = []) (h : wRun K step rule a s = some (t, s')) : ∃ r, s'.mt = [r] ∧ r.to = t ∧ (s.mem.ent = [] → r.rule = rule ∧ r.from_ = a) := by
  unfold wRun at h
  split at h
  · next r M hf =>
    simp only [Option.some.injEq, Prod.mk.injEq] at h
    obtain ⟨h1, h2⟩ := h
    subst h1; subst h2
    refine ⟨r, by simp [hm], rfl, fun he => ?_⟩
    have := (mFind_ent K.mc s.mem ⟨K.inp, rule, a⟩).2.1 r (by rw [hf])
    rw [he] at this
    exact absurd this.1 (by simp)
  · next M hf =>
    split at h
    · cases h
    · next t1 s1 hc =>
      simp only [Option.some.injEq, Prod.mk.injEq] at h
      obtain ⟨h1, h2⟩ := h
      subst h1; subst h2
      exact ⟨wRes rule a s t1 s1, by simp [wEnd, hm], rfl, fun _ => ⟨rfl, rfl⟩⟩
def wStart (n : Nat) (M : Ms) : Wt := ⟨0, 0, [], (-1, 0), List.replicate n none, M⟩
theorem Inv.start {K : Wc} {Br : Nat → Prop} (n bud : Nat) : Inv K Br (wStart n (ms0 bud)) := by
  refine ⟨(by show (-1 : Int) ≤ -1; decide), fun e he => absurd he (by simp [wStart, ms0]), ?_, Nat.le_refl _, by simp [wStart, ms0]⟩
  intro i a t _ _ _ h
  simp [wStart, List.getD_eq_getElem?_getD, List.getElem?_replicate] at h
  split at h <;> simp at h
/-- The whole of it: where it begins and what comes of it. -/
structure Whole (K : Wc) (n bud : Nat) (o : Ot) (g : Nat) (t : Int) (s' : Wt) (r : Rs) : Prop where
  run : wRun K (fun j s => wM K g j 0 s) 0 0 (wStart n (ms0 bud)) = some (t, s')
  one : s'.mt = [r]
  rto : r.to = t
  spent : K.most < o.rn + 1 → K.most < s'.cnt
  cnt : o.rn + 1 ≤ K.most → s'.cnt = o.rn + 1
  to : o.rn + 1 ≤ K.most → t = toI o.to
  far : o.rn + 1 ≤ K.most → s'.far = fAll o.ev
  tr : o.rn + 1 ≤ K.most → o.to.isSome = true → flR 0 r = (runO 0 0 0 o).tr.map nI
  dn : s'.dn ≤ s'.cnt
  hit : s'.mem.hits = 0 ↔ s'.dn = s'.cnt
theorem whole_ex {K : Wc} {Br : Nat → Prop} (hK : Kc K Br) (n bud : Nat) (hr : 0 < K.rs.length) {f : Nat} {o : Ot} (h : mtc K.b K.len K.rs K.ns f (isI K.rs 0) 0 1 = some o) : ∃ t s' r, Whole K n bud o (f + 1) t s' r := by
  obtain ⟨f0, rfl⟩ : ∃ f0, f = f0 + 1 := ⟨f - 1, by have := mtc_pos h; omega⟩
  obtain ⟨t, s', h1, h2⟩ := wRun_sim hK (step_sim hK f0) (dp := 0) hr (Nat.zero_le _) h (f0 + 1 + 1) (by omega) (wStart n (ms0 bud)) (Inv.start n bud) (Nat.zero_le _)
  obtain ⟨r, e1, e2, e3⟩ := wRun_one rfl h1
  have hc0 : (wStart n (ms0 bud)).cnt = 0 := rfl
  have hrn : (runO 0 0 0 o).rn = o.rn + 1 := rfl
  refine ⟨t, s', r, ?_⟩
  have hinv := h2.inv
  cases h2 with
  | sp inv cnt most =>
    rw [hc0, hrn] at most
    exact ⟨h1, e1, e2, fun _ => cnt, fun x => by omega, fun x => by omega, fun x => by omega, fun x => by omega, hinv.cnt, hinv.hit⟩
  | ok inv cnt most to far mt =>
    rw [hc0, hrn] at cnt
    obtain ⟨l, el, fl⟩ := mt
    have el' : s'.mt = l := el
    refine ⟨h1, e1, e2, fun x => by omega, fun _ => by omega, fun _ => to, fun _ => ?_, fun _ hs => ?_, hinv.cnt, hinv.hit⟩
    · rw [far]
      show fMer (-1, 0) (fAll o.ev) = _
      have h3 := fold_mer o.ev fNo (by decide)
      exact h3.symm
    · have h3 := fl hs
      rw [← el', e1] at h3
      simpa [flL] using h3
end Go.Proofs.YtagklnaaoclmhaaGreatDoor
