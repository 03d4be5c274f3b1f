import Derived.Test.YtagklnaaoclmhaaGreatDoorMgAC
set_option linter.unusedSimpArgs false
set_option linter.unusedVariables false
namespace Go.Proofs.YtagklnaaoclmhaaGreatDoor
open Go.RowKit

/-! Texts of words, and one byte put in. -/
def bu (u : List UInt8) (i : Nat) : Nat := (u.getD i 0).toNat
theorem byteAt_ba (u : List UInt8) : byteAt (ba u) = bu u := by
  funext i
  simp [byteAt, ba, bu]
theorem lit_pre (A B t : List UInt8) : litB (bu (A ++ B)) (A ++ B).length A.length t = t.isPrefixOf B := by
  have hget : ∀ k, bu (A ++ B) (A.length + k) = (B.getD k 0).toNat := fun k => by
    simp [bu, List.getD_eq_getElem?_getD, List.getElem?_append_right]
  rw [Bool.eq_iff_iff, List.isPrefixOf_iff_prefix]
  unfold litB
  rw [Bool.and_eq_true, decide_eq_true_eq, List.all_eq_true, List.length_append]
  constructor
  · rintro ⟨h1, h2⟩
    rw [List.prefix_iff_eq_take]
    apply List.ext_getElem
    · simp; omega
    · intro k hk1 hk2
      have h3 := h2 k (List.mem_range.2 hk1)
      rw [hget, beq_iff_eq] at h3
      have hk3 : k < B.length := by simp at hk2; omega
      rw [List.getElem_take]
      simp [List.getD_eq_getElem?_getD, List.getElem?_eq_getElem hk1, List.getElem?_eq_getElem hk3] at h3
      exact (UInt8.toNat_inj.1 h3).symm
  · rintro ⟨C, rfl⟩
    refine ⟨by simp, fun k hk => ?_⟩
    have hk' := List.mem_range.1 hk
    rw [hget, beq_iff_eq]
    simp [List.getD_eq_getElem?_getD, List.getElem?_append_left hk']
def wlB (B : List UInt8) : Option Nat := if [111, 110, 101].isPrefixOf B then some 3 else if [116, 119, 111].isPrefixOf B then some 3 else if [116, 104, 114, 101, 101].isPrefixOf B then some 5 else none
theorem wl_pre (A B : List UInt8) : wl (bu (A ++ B)) (A ++ B).length A.length = wlB B := by
  unfold wl wlB
  rw [lit_pre, lit_pre, lit_pre]
def wds : List (List UInt8) := [[111, 110, 101], [116, 119, 111], [116, 104, 114, 101, 101]]
theorem wlB_word {w : List UInt8} (h : w ∈ wds) (C : List UInt8) : wlB (w ++ C) = some w.length := by
  simp only [wds, List.mem_cons, List.not_mem_nil, or_false] at h
  rcases h with rfl | rfl | rfl <;> simp [wlB, List.isPrefixOf]
theorem wlB_broken {w : List UInt8} (h : w ∈ wds) {k : Nat} (hk : k < w.length) (C : List UInt8) : wlB (w.take k ++ 35 :: C) = none := by
  simp only [wds, List.mem_cons, List.not_mem_nil, or_false] at h
  rcases h with rfl | rfl | rfl
  · rcases (by simp at hk; omega : k = 0 ∨ k = 1 ∨ k = 2) with rfl | rfl | rfl <;> simp [wlB, List.isPrefixOf]
  · rcases (by simp at hk; omega : k = 0 ∨ k = 1 ∨ k = 2) with rfl | rfl | rfl <;> simp [wlB, List.isPrefixOf]
  · rcases (by simp at hk; omega : k = 0 ∨ k = 1 ∨ k = 2 ∨ k = 3 ∨ k = 4) with rfl | rfl | rfl | rfl | rfl <;> simp [wlB, List.isPrefixOf]
theorem word_no {w : List UInt8} (h : w ∈ wds) {k : Nat} (hk : k < w.length) : w.getD k 0 ≠ 32 := by
  simp only [wds, List.mem_cons, List.not_mem_nil, or_false] at h
  rcases h with rfl | rfl | rfl
  · rcases (by simp at hk; omega : k = 0 ∨ k = 1 ∨ k = 2) with rfl | rfl | rfl <;> decide
  · rcases (by simp at hk; omega : k = 0 ∨ k = 1 ∨ k = 2) with rfl | rfl | rfl <;> decide
  · rcases (by simp at hk; omega : k = 0 ∨ k = 1 ∨ k = 2 ∨ k = 3 ∨ k = 4) with rfl | rfl | rfl | rfl | rfl <;> decide
def rst (ws : List (List UInt8)) : List UInt8 := ws.flatMap (fun w => 32 :: w)
/-- Where the broken text fails. -/
def FrX (t : List UInt8) (k e : Nat) : Prop := ((k = t.length ∨ t.getD k 0 = 32) ∧ e = k) ∨ (k < t.length ∧ t.getD k 0 ≠ 32 ∧ e ≤ k ∧ (e = 0 ∨ t.getD (e - 1) 0 = 32) ∧ ∀ j, e ≤ j → j ≤ k → t.getD j 0 ≠ 32)
theorem gd_right (A B : List UInt8) (k : Nat) : (A ++ B).getD (A.length + k) 0 = B.getD k 0 := by
  simp [List.getD_eq_getElem?_getD, List.getElem?_append_right]
theorem gd_left {A B : List UInt8} {k : Nat} (h : k < A.length) : (A ++ B).getD k 0 = A.getD k 0 := by
  simp [List.getD_eq_getElem?_getD, List.getElem?_append_left h]
theorem far_seg : ∀ (ws : List (List UInt8)), (∀ w ∈ ws, w ∈ wds) → ∀ (A : List UInt8) (k : Nat), k ≤ (rst ws).length → ∀ u, u = A ++ ((rst ws).take k ++ 35 :: (rst ws).drop k) →
    ∃ q e, Seg (bu u) u.length A.length q ∧ q < u.length ∧ ((¬ (q < u.length ∧ bu u q = 32) ∧ e = q) ∨ ((q < u.length ∧ bu u q = 32) ∧ wl (bu u) u.length (q + 1) = none ∧ e = q + 1)) ∧ FrX (A ++ rst ws) (A.length + k) e
  | ws, hws, A, 0, _, u, hu => by
    rw [List.take_zero, List.nil_append, List.drop_zero] at hu
    have hl : A.length < u.length := by rw [hu]; simp
    have hb : bu u A.length = 35 := by
      have := gd_right A (35 :: rst ws) 0
      rw [Nat.add_zero] at this
      unfold bu
      rw [hu, this]; rfl
    refine ⟨A.length, A.length, .refl _, hl, .inl ⟨fun h => by rw [hb] at h; exact absurd h.2 (by decide), rfl⟩, .inl ⟨?_, rfl⟩⟩
    cases ws with
    | nil => left; simp [rst]
    | cons w ws =>
      right
      rw [gd_right]
      simp [rst]
  | [], _, A, k + 1, hk, u, hu => by simp [rst] at hk
  | w :: ws, hws, A, k + 1, hk, u, hu => by
    have hw := hws w (List.mem_cons_self ..)
    have hr : rst (w :: ws) = 32 :: (w ++ rst ws) := by simp [rst]
    rw [hr] at hu hk ⊢
    rw [List.take_succ_cons, List.drop_succ_cons, List.cons_append] at hu
    have hb : bu u A.length = 32 := by
      have := gd_right A (32 :: ((w ++ rst ws).take k ++ 35 :: (w ++ rst ws).drop k)) 0
      rw [Nat.add_zero] at this
      unfold bu
      rw [hu, this]; rfl
    have hl : A.length < u.length := by rw [hu]; simp
    have hl1 : (A ++ [32]).length = A.length + 1 := by simp
    by_cases hkw : k < w.length
    · have hu1 : u = (A ++ [32]) ++ (w.take k ++ 35 :: (w ++ rst ws).drop k) := by
        rw [hu, List.take_append_of_le_length (by omega)]; simp
      have hwl : wl (bu u) u.length (A.length + 1) = none := by
        rw [← hl1, hu1, wl_pre]
        exact wlB_broken hw hkw _
      refine ⟨A.length, A.length + 1, .refl _, hl, .inr ⟨⟨hl, hb⟩, hwl, rfl⟩, .inr ⟨?_, ?_, by omega, .inr ?_, fun j h1 h2 => ?_⟩⟩
      · simp; omega
      · rw [gd_right, List.getD_cons_succ, gd_left hkw]
        exact word_no hw hkw
      · rw [Nat.add_sub_cancel]
        have := gd_right A (32 :: (w ++ rst ws)) 0
        rw [Nat.add_zero] at this
        rw [this]; rfl
      · obtain ⟨x, rfl⟩ : ∃ x, j = A.length + (x + 1) := ⟨j - A.length - 1, by omega⟩
        rw [gd_right, List.getD_cons_succ, gd_left (by omega)]
        exact word_no hw (by omega)
    · obtain ⟨k3, rfl⟩ : ∃ k3, k = w.length + k3 := ⟨k - w.length, by omega⟩
      have hu1 : u = (A ++ 32 :: w) ++ ((rst ws).take k3 ++ 35 :: (rst ws).drop k3) := by
        rw [hu, List.take_length_add_append, List.drop_length_add_append]; simp
      have hu2 : u = (A ++ [32]) ++ (w ++ ((rst ws).take k3 ++ 35 :: (rst ws).drop k3)) := by rw [hu1]; simp
      have hwl : wl (bu u) u.length (A.length + 1) = some w.length := by
        rw [← hl1, hu2, wl_pre]
        exact wlB_word hw _
      have hl2 : (A ++ 32 :: w).length = A.length + 1 + w.length := by simp; omega
      obtain ⟨q, e, h1, h2, h3, h4⟩ := far_seg ws (fun x hx => hws x (List.mem_cons_of_mem _ hx)) (A ++ 32 :: w) k3 (by simp at hk; omega) u hu1
      rw [hl2] at h1 h4
      refine ⟨q, e, .step hl hb hwl h1, h2, h3, ?_⟩
      have e1 : (A ++ 32 :: w) ++ rst ws = A ++ 32 :: (w ++ rst ws) := by simp
      rw [e1] at h4
      rw [show A.length + (w.length + k3 + 1) = A.length + 1 + w.length + k3 by omega]
      exact h4
theorem whole_seg : ∀ (ws : List (List UInt8)), (∀ w ∈ ws, w ∈ wds) → ∀ (A u : List UInt8), u = A ++ rst ws → Seg (bu u) u.length A.length u.length
  | [], _, A, u, hu => by
    have : u.length = A.length := by rw [hu]; simp [rst]
    rw [this]; exact .refl _
  | w :: ws, hws, A, u, hu => by
    have hw := hws w (List.mem_cons_self ..)
    have hr : rst (w :: ws) = 32 :: (w ++ rst ws) := by simp [rst]
    rw [hr] at hu
    have hb : bu u A.length = 32 := by
      have := gd_right A (32 :: (w ++ rst ws)) 0
      rw [Nat.add_zero] at this
      unfold bu
      rw [hu, this]; rfl
    have hl : A.length < u.length := by rw [hu]; simp
    have hl1 : (A ++ [32]).length = A.length + 1 := by simp
    have hu1 : u = (A ++ 32 :: w) ++ rst ws := by rw [hu]; simp
    have hu2 : u = (A ++ [32]) ++ (w ++ rst ws) := by rw [hu]; simp
    have hwl : wl (bu u) u.length (A.length + 1) = some w.length := by
      rw [← hl1, hu2, wl_pre]
      exact wlB_word hw _
    have hl2 : (A ++ 32 :: w).length = A.length + 1 + w.length := by simp; omega
    have h1 := whole_seg ws (fun x hx => hws x (List.mem_cons_of_mem _ hx)) (A ++ 32 :: w) u hu1
    rw [hl2] at h1
    exact .step hl hb hwl h1
/-- A text of words. -/
structure Wt2 (t : List UInt8) : Prop where
  ex : ∃ w ws, w ∈ wds ∧ (∀ x ∈ ws, x ∈ wds) ∧ t = w ++ rst ws
theorem Wt2.one : Wt2 [111, 110, 101] := ⟨[111, 110, 101], [], by decide, by simp, by simp [rst]⟩
theorem Wt2.more {t w : List UInt8} (h : Wt2 t) (hw : w ∈ wds) : Wt2 (t ++ 32 :: w) := by
  obtain ⟨w0, ws, h1, h2, rfl⟩ := h.ex
  refine ⟨w0, ws ++ [w], h1, fun x hx => ?_, by simp [rst]⟩
  rcases List.mem_append.1 hx with h | h
  · exact h2 x h
  · simp at h; rw [h]; exact hw
theorem whole_run {t : List UInt8} (h : Wt2 t) : ∃ f o, mtc (byteAt (ba t)) (ba t).size G2r G2n f 9 0 1 = some o ∧ o.to = some t.length ∧ o.rn ≤ t.length + 2 := by
  obtain ⟨w, ws, h1, h2, ht⟩ := h.ex
  have hsz : (ba t).size = t.length := rfl
  rw [byteAt_ba, hsz]
  have hwl : wl (bu t) t.length 0 = some w.length := by
    have := wl_pre [] (w ++ rst ws)
    rw [List.nil_append, List.length_nil] at this
    rw [ht, this]
    exact wlB_word h1 _
  obtain ⟨f, o, a1, a2, a3, a4⟩ := (g2_run (b := bu t) (len := t.length) (e := t.length) 1).2.1 w.length hwl (whole_seg ws h2 w t ht) rfl
  exact ⟨f, o, a1, a2, a4⟩
theorem broken_run {t : List UInt8} (h : Wt2 t) (k : Nat) (hk : k ≤ t.length) : ∃ f o e, mtc (byteAt (ba (t.take k ++ 35 :: t.drop k))) (ba (t.take k ++ 35 :: t.drop k)).size G2r G2n f 9 0 1 = some o ∧ o.to = none ∧ farI o.ev = ((e : Nat) : Int) ∧ o.rn ≤ t.length + 3 ∧ FrX t k e := by
  obtain ⟨w, ws, h1, h2, ht⟩ := h.ex
  obtain ⟨u, hu⟩ : ∃ u, u = t.take k ++ 35 :: t.drop k := ⟨_, rfl⟩
  have hsz : (ba u).size = u.length := rfl
  have hul : u.length = t.length + 1 := by rw [hu]; simp; omega
  rw [← hu, byteAt_ba, hsz]
  by_cases hkw : k < w.length
  · have hu1 : u = w.take k ++ 35 :: t.drop k := by rw [hu, ht, List.take_append_of_le_length (by omega)]
    have hwl : wl (bu u) u.length 0 = none := by
      have := wl_pre [] (w.take k ++ 35 :: t.drop k)
      rw [List.nil_append, List.length_nil] at this
      rw [hu1, this]
      exact wlB_broken h1 hkw _
    obtain ⟨f, o, a1, a2, a3, a4⟩ := (g2_run (b := bu u) (len := u.length) (e := 0) 1).1 ⟨hwl, rfl⟩
    refine ⟨f, o, 0, a1, a2, a3, by omega, .inr ⟨?_, ?_, Nat.zero_le _, .inl rfl, fun j _ hj => ?_⟩⟩
    · rw [ht]; simp; omega
    · rw [ht, gd_left hkw]; exact word_no h1 hkw
    · rw [ht, gd_left (by omega)]; exact word_no h1 (by omega)
  · obtain ⟨k3, rfl⟩ : ∃ k3, k = w.length + k3 := ⟨k - w.length, by omega⟩
    have hu1 : u = w ++ ((rst ws).take k3 ++ 35 :: (rst ws).drop k3) := by
      rw [hu, ht, List.take_length_add_append, List.drop_length_add_append]; simp
    have hwl : wl (bu u) u.length 0 = some w.length := by
      have := wl_pre [] (w ++ ((rst ws).take k3 ++ 35 :: (rst ws).drop k3))
      rw [List.nil_append, List.length_nil] at this
      rw [hu1, this]
      exact wlB_word h1 _
    obtain ⟨q, e, b1, b2, b3, b4⟩ := far_seg ws h2 w k3 (by rw [ht] at hk; simp at hk; omega) u hu1
    obtain ⟨f, o, a1, a2, a3, a4⟩ := (g2_run (b := bu u) (len := u.length) (e := e) 1).2.2 w.length q hwl b1 b2 b3
    refine ⟨f, o, e, a1, a2, a3, by omega, ?_⟩
    rw [ht]; exact b4
end Go.Proofs.YtagklnaaoclmhaaGreatDoor
