import Derived.Test.YtagklnaaoclmhaaPlnE
import Derived.Test.YtagklnaaoclmhaaCodG
set_option linter.unusedSimpArgs false
set_option linter.unusedVariables false
namespace Go.Proofs.Ytagklnaaoclmhaa
open Go.RowKit

theorem mns_at : ∀ (l : List Nd) (o : Nat), (mns o l).map Mn.at_ = ats l
  | [], o => rfl
  | N :: l, o => by
    rw [mns, List.map_append, mns_at l (o + 1)]
    by_cases h : N.kind = 3
    · rw [if_pos h]; simp [ats, h]
    · rw [if_neg h]; simp [ats, h]
theorem mns_mem : ∀ (l : List Nd) (o : Nat) (m : Mn), m ∈ mns o l ↔ ∃ i, i < l.length ∧ (nth l i).kind = 3 ∧ m = ⟨(nth l i).name, (nth l i).at_, some (o + i)⟩
  | [], o, m => by simp [mns]
  | N :: l, o, m => by
    rw [mns, List.mem_append, mns_mem l (o + 1) m]
    constructor
    · rintro (h | ⟨i, h1, h2, h3⟩)
      · split at h
        · next hk =>
          rw [List.mem_singleton.1 h]
          exact ⟨0, by simp, hk, rfl⟩
        · cases h
      · exact ⟨i + 1, by simp; omega, h2, by rw [h3, show o + 1 + i = o + (i + 1) by omega]; rfl⟩
    · rintro ⟨i, h1, h2, h3⟩
      cases i with
      | zero => left; rw [if_pos (show N.kind = 3 from h2), h3]; simp [nth]
      | succ i => exact .inr ⟨i, by simpa using h1, h2, by rw [h3, show o + 1 + i = o + (i + 1) by omega]; rfl⟩

/-- The names as they stand in the text: those of the rules and those of the nodes, in order. -/
structure MsOk (ms : List Mn) (rs : List Rl) (ns : List Nd) (p : Nat) : Prop where
  mem : ∀ m, m ∈ ms ↔ (m.part = none ∧ ∃ r ∈ rs, r.name = m.name ∧ r.at_ = m.at_) ∨ (∃ i, m.part = some i ∧ i < ns.length ∧ (nth ns i).kind = 3 ∧ (nth ns i).name = m.name ∧ (nth ns i).at_ = m.at_)
  srt : (ms.map Mn.at_).Pairwise (· < ·)
  lt : ∀ m ∈ ms, m.at_ < p
  rsrt : (rs.map Rl.at_).Pairwise (· < ·)
  rlt : ∀ r ∈ rs, r.at_ < p
  len : ms.length ≤ ns.length + rs.length

theorem MsOk.nil : MsOk [] [] [] 0 := ⟨fun m => by simp, by simp, by simp, by simp, by simp, by simp⟩
theorem nth_app_l {l m : List Nd} {i : Nat} (h : i < l.length) : nth (l ++ m) i = nth l i := getD_app_l h
theorem nth_app_r {l m : List Nd} {i : Nat} : nth (l ++ m) (l.length + i) = nth m i := by
  unfold nth; rw [getD_app_r (by omega)]; congr 1; omega

theorem MsOk.rule {ms : List Mn} {rs : List Rl} {ns l : List Nd} {p q : Nat} {r : Rl} (h : MsOk ms rs ns p) (h1 : p ≤ r.at_) (h2 : (ats l).Pairwise (· < ·)) (h3 : ∀ a ∈ ats l, r.at_ < a ∧ a < q) (h4 : r.at_ < q) :
    MsOk (ms ++ [⟨r.name, r.at_, none⟩] ++ mns ns.length l) (rs ++ [r]) (ns ++ l) q := by
  have hl : ∀ m ∈ mns ns.length l, r.at_ < m.at_ ∧ m.at_ < q := fun m hm => h3 _ (by rw [← mns_at l ns.length]; exact List.mem_map_of_mem hm)
  refine ⟨fun m => ?_, ?_, fun m hm => ?_, ?_, fun x hx => ?_, ?_⟩
  · rw [List.mem_append, List.mem_append, h.mem, mns_mem, List.mem_singleton]
    constructor
    · rintro ((h5 | h5) | ⟨i, e1, e2, e3⟩)
      · rcases h5 with ⟨e0, x, hx, e1, e2⟩ | ⟨i, e0, e1, e2, e3, e4⟩
        · exact .inl ⟨e0, x, List.mem_append_left _ hx, e1, e2⟩
        · exact .inr ⟨i, e0, by simp; omega, by rw [nth_app_l e1]; exact e2, by rw [nth_app_l e1]; exact e3, by rw [nth_app_l e1]; exact e4⟩
      · rw [h5]; exact .inl ⟨rfl, r, List.mem_append_right _ (List.mem_singleton.2 rfl), rfl, rfl⟩
      · rw [e3]
        exact .inr ⟨ns.length + i, rfl, by simp; omega, by rw [nth_app_r]; exact e2, by rw [nth_app_r], by rw [nth_app_r]⟩
    · rintro (⟨e0, x, hx, e1, e2⟩ | ⟨i, e0, e1, e2, e3, e4⟩)
      · rcases List.mem_append.1 hx with hx | hx
        · exact .inl (.inl (.inl ⟨e0, x, hx, e1, e2⟩))
        · rw [List.mem_singleton.1 hx] at e1 e2
          refine .inl (.inr ?_)
          obtain ⟨mn, ma, mp⟩ := m
          dsimp only at *
          rw [e0, e1, e2]
      · by_cases hi : i < ns.length
        · rw [nth_app_l hi] at e2 e3 e4
          exact .inl (.inl (.inr ⟨i, e0, hi, e2, e3, e4⟩))
        · obtain ⟨j, rfl⟩ : ∃ j, i = ns.length + j := ⟨i - ns.length, by omega⟩
          rw [nth_app_r] at e2 e3 e4
          refine .inr ⟨j, by simp at e1; omega, e2, ?_⟩
          obtain ⟨mn, ma, mp⟩ := m
          dsimp only at *
          rw [e0, e3, e4]
  · rw [List.map_append, List.map_append, mns_at, List.pairwise_append, List.pairwise_append]
    refine ⟨⟨h.srt, by simp, fun a ha b hb => ?_⟩, h2, fun a ha b hb => ?_⟩
    · obtain ⟨m, hm, rfl⟩ := List.mem_map.1 ha
      simp at hb
      have := h.lt m hm
      omega
    · have hb' := h3 b hb
      rcases List.mem_append.1 ha with ha | ha
      · obtain ⟨m, hm, rfl⟩ := List.mem_map.1 ha
        have := h.lt m hm
        omega
      · simp at ha; omega
  · rcases List.mem_append.1 hm with hm | hm
    · rcases List.mem_append.1 hm with hm | hm
      · have := h.lt m hm; omega
      · rw [List.mem_singleton.1 hm]; exact h4
    · exact (hl m hm).2
  · rw [List.map_append, List.pairwise_append]
    refine ⟨h.rsrt, by simp, fun a ha b hb => ?_⟩
    obtain ⟨x, hx, rfl⟩ := List.mem_map.1 ha
    simp at hb
    have := h.rlt x hx
    omega
  · rcases List.mem_append.1 hx with hx | hx
    · have := h.rlt x hx; omega
    · rw [List.mem_singleton.1 hx]; exact h4
  · have := h.len
    have := mns_len l ns.length
    simp
    omega

/-- A name that is a rule's for the second time, or no rule's. -/
def badM (rs : List Rl) (m : Mn) : Bool := match m.part with
  | none => decide ((rs.map Rl.at_).getD ((fndI rs m.name).getD 0) 0 ≠ m.at_)
  | some _ => decide (fndI rs m.name = none)

theorem fnd_neg {rs : List Rl} {nm : List UInt8} : fnd rs nm < 0 ↔ fndI rs nm = none := by
  unfold fnd
  cases fndI rs nm <;> simp <;> omega
/-- The least of those that are wrong. -/
def Lst2 (x : Int) (Q : Nat → Prop) : Prop := (x < 0 ∧ ∀ a, ¬ Q a) ∨ (0 ≤ x ∧ Q x.toNat ∧ ∀ a, Q a → x ≤ (a : Int))
theorem Lst2.more {x : Int} {Q : Nat → Prop} (h : Lst2 x Q) (a : Nat) : Lst2 (lo x a) (fun b => Q b ∨ b = a) := by
  unfold lo
  rcases h with ⟨h1, h2⟩ | ⟨h1, h2, h3⟩
  · rw [if_pos (.inl h1)]
    exact .inr ⟨by omega, .inr (by simp), fun b hb => by
      rcases hb with hb | hb
      · exact absurd hb (h2 b)
      · rw [hb]; omega⟩
  · split
    · next hc =>
      have hc' : (a : Int) < x := by omega
      exact .inr ⟨by omega, .inr (by simp), fun b hb => by
        rcases hb with hb | hb
        · have := h3 b hb; omega
        · rw [hb]; omega⟩
    · next hc => exact .inr ⟨h1, .inl h2, fun b hb => by
        rcases hb with hb | hb
        · exact h3 b hb
        · rw [hb]; omega⟩
theorem Lst2.iff {x : Int} {Q R : Nat → Prop} (h : Lst2 x Q) (he : ∀ a, Q a ↔ R a) : Lst2 x R := by
  rcases h with ⟨h1, h2⟩ | ⟨h1, h2, h3⟩
  · exact .inl ⟨h1, fun a ha => h2 a ((he a).2 ha)⟩
  · exact .inr ⟨h1, (he _).1 h2, fun a ha => h3 a ((he a).2 ha)⟩
theorem misR_least (rs : List Rl) : ∀ k, Lst2 (misR rs k) (fun a => ∃ j, j < k ∧ fnd rs ((rs.map Rl.name).getD j []) < j ∧ a = (rs.map Rl.at_).getD j 0)
  | 0 => .inl ⟨by simp [misR], fun a ⟨j, hj, _⟩ => by omega⟩
  | k + 1 => by
    rw [misR]
    split
    · next hc =>
      refine ((misR_least rs k).more _).iff (fun a => ?_)
      constructor
      · rintro (⟨j, h1, h2, h3⟩ | h)
        · exact ⟨j, by omega, h2, h3⟩
        · exact ⟨k, by omega, hc, h⟩
      · rintro ⟨j, h1, h2, h3⟩
        by_cases hj : j = k
        · subst hj; exact .inr h3
        · exact .inl ⟨j, by omega, h2, h3⟩
    · next hc =>
      refine (misR_least rs k).iff (fun a => ?_)
      constructor
      · rintro ⟨j, h1, h2, h3⟩; exact ⟨j, by omega, h2, h3⟩
      · rintro ⟨j, h1, h2, h3⟩
        by_cases hj : j = k
        · subst hj; exact absurd h2 hc
        · exact ⟨j, by omega, h2, h3⟩
theorem misN_least (rs : List Rl) (ns : List Nd) : ∀ k, Lst2 (misN rs ns k) (fun a => (∃ j, j < rs.length ∧ fnd rs ((rs.map Rl.name).getD j []) < j ∧ a = (rs.map Rl.at_).getD j 0) ∨ (∃ j, j < k ∧ ((ns.map Nd.kind).getD j 0 = 3 ∧ fnd rs ((ns.map Nd.name).getD j []) < 0) ∧ a = (ns.map Nd.at_).getD j 0))
  | 0 => (misR_least rs rs.length).iff (fun a => ⟨.inl, fun h => by
      rcases h with h | ⟨j, hj, _⟩
      · exact h
      · omega⟩)
  | k + 1 => by
    rw [misN]
    split
    · next hc =>
      refine ((misN_least rs ns k).more _).iff (fun a => ?_)
      constructor
      · rintro ((h | ⟨j, h1, h2, h3⟩) | h)
        · exact .inl h
        · exact .inr ⟨j, by omega, h2, h3⟩
        · exact .inr ⟨k, by omega, hc, h⟩
      · rintro (h | ⟨j, h1, h2, h3⟩)
        · exact .inl (.inl h)
        · by_cases hj : j = k
          · subst hj; exact .inr h3
          · exact .inl (.inr ⟨j, by omega, h2, h3⟩)
    · next hc =>
      refine (misN_least rs ns k).iff (fun a => ?_)
      constructor
      · rintro (h | ⟨j, h1, h2, h3⟩)
        · exact .inl h
        · exact .inr ⟨j, by omega, h2, h3⟩
      · rintro (h | ⟨j, h1, h2, h3⟩)
        · exact .inl h
        · by_cases hj : j = k
          · subst hj; exact absurd h2 hc
          · exact .inr ⟨j, by omega, h2, h3⟩

theorem fndI_own {rs : List Rl} {j : Nat} (hj : j < rs.length) : ∃ i, fndI rs rs[j].name = some i ∧ i ≤ j := by
  unfold fndI
  cases h : rs.findIdx? (fun r => r.name == rs[j].name) with
  | none =>
    have := List.findIdx?_eq_none_iff.1 h rs[j] (List.getElem_mem hj)
    simp at this
  | some i =>
    refine ⟨i, rfl, ?_⟩
    obtain ⟨h1, h2, h3⟩ := List.findIdx?_eq_some_iff_getElem.1 h
    rcases Nat.lt_or_ge j i with hlt | hge
    · have := h3 j hlt
      simp at this
    · exact hge
theorem MsOk.least {ms : List Mn} {rs : List Rl} {ns : List Nd} {p : Nat} (h : MsOk ms rs ns p) : Lst2 (mis rs ns) (fun a => ∃ m ∈ ms, badM rs m = true ∧ a = m.at_) := by
  refine (misN_least rs ns ns.length).iff (fun a => ?_)
  have hgt : ∀ i j, i < j → j < rs.length → (rs.map Rl.at_).getD i 0 < (rs.map Rl.at_).getD j 0 := by
    intro i j hij hj
    rw [map_getD _ _ _ _ (by omega), map_getD _ _ _ _ hj]
    have := List.pairwise_iff_getElem.1 h.rsrt i j (by simp; omega) (by simpa using hj) hij
    simpa using this
  constructor
  · rintro (⟨j, h1, h2, h3⟩ | ⟨j, h1, h2, h3⟩)
    · rw [map_getD _ _ _ _ h1] at h2 h3
      refine ⟨⟨rs[j].name, rs[j].at_, none⟩, (h.mem _).2 (.inl ⟨rfl, rs[j], List.getElem_mem h1, rfl, rfl⟩), ?_, h3⟩
      obtain ⟨i, hi, hij⟩ := fndI_own h1
      unfold fnd at h2
      rw [hi] at h2
      unfold badM
      simp only [hi, Option.getD_some]
      have := hgt i j (by simp at h2; omega) h1
      rw [map_getD _ _ j _ h1] at this
      simp
      simp at this
      omega
    · rw [map_getD _ _ _ _ h1, map_getD _ _ _ _ h1] at h2
      rw [map_getD _ _ _ _ h1] at h3
      refine ⟨⟨ns[j].name, ns[j].at_, some j⟩, (h.mem _).2 (.inr ⟨j, rfl, h1, ?_, ?_, ?_⟩), ?_, h3⟩
      · rw [nth_get h1]; exact h2.1
      · rw [nth_get h1]
      · rw [nth_get h1]
      · unfold badM; simp [fnd_neg.1 h2.2]
  · rintro ⟨m, hm, hb, rfl⟩
    rcases (h.mem m).1 hm with ⟨e0, r, hr, e1, e2⟩ | ⟨i, e0, e1, e2, e3, e4⟩
    · obtain ⟨j, hj, rfl⟩ := List.getElem_of_mem hr
      refine .inl ⟨j, hj, ?_, by rw [map_getD _ _ _ _ hj]; exact e2.symm⟩
      obtain ⟨i, hi, hij⟩ := fndI_own hj
      rw [map_getD _ _ _ _ hj]
      unfold fnd
      rw [hi]
      unfold badM at hb
      rw [e0, ← e1] at hb
      simp only [hi, Option.getD_some, decide_eq_true_eq] at hb
      rcases Nat.lt_or_eq_of_le hij with hlt | heq
      · simp; omega
      · subst heq
        rw [map_getD _ _ _ _ hj] at hb
        exact absurd e2 hb
    · refine .inr ⟨i, e1, ?_, by rw [map_getD _ _ _ _ e1, ← nth_get e1]; exact e4.symm⟩
      rw [map_getD _ _ _ _ e1, map_getD _ _ _ _ e1, ← nth_get e1]
      refine ⟨e2, ?_⟩
      unfold badM at hb
      rw [e0] at hb
      rw [e3]
      exact fnd_neg.2 (by simpa using hb)
/-- The first that is wrong is the least. -/
theorem MsOk.first {ms : List Mn} {rs : List Rl} {ns : List Nd} {p : Nat} (h : MsOk ms rs ns p) {q : Nat} (hq : q < ms.length) (h1 : ∀ j (hj : j < ms.length), j < q → badM rs ms[j] = false) (h2 : badM rs ms[q] = true) : mis rs ns = (ms[q].at_ : Int) := by
  rcases h.least with ⟨_, h4⟩ | ⟨h3, ⟨m, hm, hb, he⟩, h5⟩
  · exact absurd ⟨ms[q], List.getElem_mem hq, h2, rfl⟩ (h4 ms[q].at_)
  · have h6 := h5 _ ⟨ms[q], List.getElem_mem hq, h2, rfl⟩
    obtain ⟨j, hj, rfl⟩ := List.getElem_of_mem hm
    rcases Nat.lt_trichotomy j q with hlt | heq | hgt
    · rw [h1 j hj hlt] at hb; cases hb
    · subst heq; omega
    · have := List.pairwise_iff_getElem.1 h.srt q j (by simpa using hq) (by simpa using hj) hgt
      simp at this
      omega
theorem MsOk.none {ms : List Mn} {rs : List Rl} {ns : List Nd} {p : Nat} (h : MsOk ms rs ns p) (h1 : ∀ j (hj : j < ms.length), badM rs ms[j] = false) : mis rs ns < 0 := by
  rcases h.least with ⟨h3, _⟩ | ⟨h3, ⟨m, hm, hb, he⟩, h5⟩
  · exact h3
  · obtain ⟨j, hj, rfl⟩ := List.getElem_of_mem hm
    rw [h1 j hj] at hb; cases hb
end Go.Proofs.Ytagklnaaoclmhaa
