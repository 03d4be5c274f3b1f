import Derived.Test.YtagklnaaoclmhaaCodK
set_option linter.unusedSimpArgs false
set_option linter.unusedVariables false
namespace Go.Proofs.Ytagklnaaoclmhaa
open Go.RowKit

/-- Fewer or other blocks set apart. -/
theorem CR.apart {w : World} {base b : Nat} {s : ByteArray} {mv : Value} {T T' : Nat → Prop} {P : List Nat} {ms : List Mn} {A : St} (h : CR w base b s mv T P ms A) (ht : ∀ k, T' k → T k) : CR w base b s mv T' P ms A :=
  ⟨h.ris, h.own, h.nb, h.ar.kept (Kept.refl (fun _ => False) w) (fun _ _ _ x => x) (fun _ _ x => ⟨x.1, x.2.1, fun y => x.2.2 (ht _ y)⟩), fun k hk => h.told k (ht k hk), h.mlt, h.bb, h.t40, h.mlen⟩

/-- A list of parts that is being made beside the reader. -/
structure Acc (H : Nat) (w : World) (base b : Nat) (mv v : Value) (P acc : List Nat) : Prop where
  own : w.ownsRow base 67 1 v acc.length (acc.map (ptrAt P))
  new : ∀ j, v.ownBlock = some j → H ≤ j
  nb : ∀ j, v.ownBlock = some j → j ≠ b ∧ mv.ownBlock ≠ some j

def And2 (T : Nat → Prop) (v : Value) (k : Nat) : Prop := T k ∨ v.ownBlock = some k

theorem ptrAt_ext {P l acc : List Nat} (h : ∀ j ∈ acc, j < P.length) : acc.map (ptrAt (P ++ l)) = acc.map (ptrAt P) := by
  apply List.map_congr_left
  intro j hj
  unfold ptrAt
  rw [getD_app_l (h j hj)]

theorem Acc.cs {H : Nat} {w w' : World} {base b : Nat} {mv mv' v : Value} {P acc : List Nat} (h : Acc H w base b mv v P acc) (hS : Cs b mv mv' w w') (hl : ∀ j ∈ acc, j < P.length) (l : List Nat) : Acc H w' base b mv' v (P ++ l) acc := by
  refine ⟨?_, h.new, fun j hj => ⟨(h.nb j hj).1, fun hx => ?_⟩⟩
  · rw [ptrAt_ext hl]
    exact own_kept h.own hS.kept (fun i hi hx => by
      rcases hx with hx | hx
      · exact (h.nb i hi).1 hx
      · exact (h.nb i hi).2 hx)
  · rcases hS.own j hx with y | y
    · exact (h.nb j hj).2 y
    · have := (h.own.lt j hj).2; omega

theorem info67 : (Try.prog.info? 67).map (fun i => (i.zero, i.size, i.bytes)) = some (some (.pointer none), 1, 8) := by kernel_rfl

/-- One more in the list. -/
theorem Acc.app {H : Nat} {w w9 : World} {base b : Nat} {s : ByteArray} {mv v : Value} {T : Nat → Prop} {P acc : List Nat} {ms : List Mn} {A : St} {x gg cap : Nat} {o : Obj} (h : Acc H w base b mv v P acc) (hC : CR w base b s mv (And2 T v) P ms A) (hH : H ≤ w.heap.size)
    (hown : w9.ownsRow base 67 1 (.slice (some ⟨gg, 0, none⟩) (acc.length + 1) cap) (acc.length + 1) (acc.map (ptrAt P) ++ [ptrAt P x])) (hgrow : (w.alloc o).grownBy w9 v.ownBlock) (hat : v.ownBlock = some gg ∨ gg = w.heap.size + 1) :
    Acc H w9 base b mv (.slice (some ⟨gg, 0, none⟩) (acc.length + 1) cap) P (acc ++ [x]) ∧ CR w9 base b s mv (And2 T (.slice (some ⟨gg, 0, none⟩) (acc.length + 1) cap)) P ms A ∧ Kept (fun k => v.ownBlock = some k) w w9 := by
  have hk : Kept (fun k => v.ownBlock = some k) w w9 := ((Kept.refl _ w).alloc _).grown hgrow (fun k hk _ => hk)
  have hb := hC.lt
  have hz := hk.size
  have hgl : gg < w9.heap.size := (hown.lt gg rfl).2
  refine ⟨⟨?_, fun j hj => ?_, fun j hj => ?_⟩, ?_, hk⟩
  · rw [List.length_append, List.map_append]; exact hown
  · have : gg = j := Option.some.inj hj
    subst this
    rcases hat with h1 | h1
    · exact h.new _ h1
    · omega
  · have : gg = j := Option.some.inj hj
    subst this
    rcases hat with h1 | h1
    · exact h.nb _ h1
    · exact ⟨by omega, fun hx => by have := (hC.own.lt _ hx).2; omega⟩
  · refine ⟨hC.ris.kept hk (fun hx => (h.nb b hx).1 rfl), own_kept hC.own hk (fun i hi hx => (h.nb i hx).2 hi), hC.nb, hC.ar.kept hk (fun j _ x y => x.2.2 (.inr y)) (fun j hj x => ⟨x.1, x.2.1, fun y => ?_⟩), fun k hk' => ?_, hC.mlt, hC.bb, hC.t40, hC.mlen⟩
    · rcases y with y | y
      · exact x.2.2 (.inl y)
      · have : gg = j := Option.some.inj y
        subst this
        rcases hat with h1 | h1
        · exact x.2.2 (.inr h1)
        · omega
    · rcases hk' with y | y
      · have := hC.told k (.inl y); omega
      · have : gg = k := Option.some.inj y
        omega
end Go.Proofs.Ytagklnaaoclmhaa

namespace Go.Proofs.Ytagklnaaoclmhaa
open Go.RowKit

theorem biB_nx {s : ByteArray} {g : Sc} (hb : g.bad < 0) (ha : g.at_ ≤ s.size) : biB (nx s g.at_) = biB (pk s g : Int) := by
  unfold nx pk
  by_cases h : g.at_ = s.size
  · rw [if_pos h, if_neg (by omega)]; decide
  · rw [if_neg h, if_pos ⟨hb, by omega⟩]
theorem biB_true {c : Nat} (h : biB (c : Int) = true) : 0 < c ∧ c ≠ 10 ∧ c ≠ 47 ∧ c ≠ 41 := by
  unfold biB letterB at h
  simp at h
  omega
theorem biB_false {c : Nat} (h : biB (c : Int) = false) : c ≠ 38 ∧ c ≠ 33 ∧ c ≠ 39 ∧ c ≠ 91 ∧ c ≠ 46 ∧ c ≠ 40 ∧ letterB (c : Int) = false := by
  unfold biB at h
  rw [Bool.or_eq_false_iff] at h
  have h1 := h.1
  simp at h1
  refine ⟨?_, ?_, ?_, ?_, ?_, ?_, h.2⟩ <;> omega
theorem seqEnd_bi {s : ByteArray} {g : Sc} (h : biB (pk s g : Int) = true) : seqEnd s g = false := by
  obtain ⟨h0, h1, h2, h3⟩ := biB_true h
  obtain ⟨p1, p2, _⟩ := pk_pos h0
  unfold seqEnd
  rw [moreB_true.2 ⟨p1, p2⟩]
  simp [h1, h2, h3]

theorem item_stuck {s : ByteArray} {ch : St → St × Nat} {A : St} (hb : A.sc.bad < 0) (hi : Iv s A.sc) (hbl : bl s A.sc = A.sc) (h : biB (pk s A.sc : Int) = false) : (itemM s ch A).1.sc = wr A.sc := by
  obtain ⟨h1, h2, h3, h4, h5, h6, h7⟩ := biB_false h
  have k1 : sgB s A.sc 38 = false := by rw [sgB_pk hb hi (by decide), hbl]; simpa using h1
  have k2 : sg s A.sc 38 = A.sc := by unfold sg; rw [k1, hbl]; rfl
  have k3 : sgB s A.sc 33 = false := by rw [sgB_pk hb hi (by decide), hbl]; simpa using h2
  have k4 : sg s A.sc 33 = A.sc := by unfold sg; rw [k3, hbl]; rfl
  have k5 : aheadS s A.sc = A.sc := by unfold aheadS; rw [k1, k2, k4]; rfl
  have k6 : partM s ch A = addN { A with sc := wr A.sc } nd0 := by
    unfold partM; rw [hbl, if_neg (by rw [h7]; simp), if_neg h5, if_neg h3, if_neg h4, if_neg (fun x => h6 x.1)]
  have hw : ¬ (wr A.sc).bad < 0 := by rw [wr_eq hb]; show ¬ ((A.sc.at_ : Int) < 0); omega
  have k7 : (repM s (partM s ch A)).1.sc = wr A.sc := by
    rw [k6]; unfold repM
    have e1 : (addN { A with sc := wr A.sc } nd0).1.sc = wr A.sc := rfl
    rw [e1, bl_of_bad (by omega)]
    have hpk : pk s (wr A.sc) = 0 := by unfold pk; rw [if_neg (fun x => hw x.1)]
    rw [hpk]; rfl
  unfold itemM
  rw [ahead_bad, k5]
  exact k7

theorem seqEnd_bad {s : ByteArray} {g : Sc} (h : ¬ g.bad < 0) : seqEnd s g = true := by
  unfold seqEnd
  have : moreB s g = false := by unfold moreB; simp; omega
  rw [this]; rfl
theorem seqF_stuck {s : ByteArray} {ch : St → St × Nat} {f : Nat} {acc : List Nat} {A : St} (hb : A.sc.bad < 0) (hi : Iv s A.sc) (hbl : bl s A.sc = A.sc) (h : biB (pk s A.sc : Int) = false) : (seqF s ch (f + 1) acc A).1.sc = wr A.sc := by
  have h1 := item_stuck (ch := ch) hb hi hbl h
  have hw : ¬ (wr A.sc).bad < 0 := by rw [wr_eq hb]; show ¬ ((A.sc.at_ : Int) < 0); omega
  have h2 : bl s (wr A.sc) = wr A.sc := bl_of_bad (by omega)
  rw [seqF, h1, h2, seqEnd_bad hw]
  rfl
end Go.Proofs.Ytagklnaaoclmhaa
