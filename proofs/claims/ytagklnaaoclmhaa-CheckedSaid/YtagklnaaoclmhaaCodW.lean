import Derived.Test.YtagklnaaoclmhaaCodV
set_option linter.unusedSimpArgs false
set_option linter.unusedVariables false
namespace Go.Proofs.Ytagklnaaoclmhaa
open Go.RowKit

/-- What is read of a part's parts. -/
theorem ptr_cell {w : World} {base : Nat} {v : Value} {P l : List Nat} (h : w.ownsRow base 67 1 v l.length (l.map (ptrAt P))) {k : Nat} (hk : k < l.length) :
    ∃ sb cap, v = .slice (some ⟨sb, 0, none⟩) l.length cap ∧ w.cell? ⟨sb, k, none⟩ = some (.pointer (some ⟨P.getD (l.getD k 0) 0, 0, none⟩)) := by
  obtain ⟨sb, cap, hv, _, _⟩ := h.form (by omega)
  subst hv
  refine ⟨sb, cap, rfl, ?_⟩
  rw [h.cellAt k (by omega)]
  simp [ptrAt, hk, List.getD]

/-- What the search leaves: whether there is one. -/
structure IxOut (w : World) (b : Bool) (e : Ending) (w' : World) : Prop where
  res : ∃ x : Int, e = .returned (.int .i64 x) ∧ decide (x ≥ 0) = b
  kept : Kept (fun _ => False) w w'

theorem any_none {l : List Nat} {g : Nat → Bool} (h : ∀ q, q < l.length → g (l.getD q 0) = false) : l.any g = false := by
  rw [List.any_eq_false]
  intro x hx
  obtain ⟨q, hq, rfl⟩ := List.getElem_of_mem hx
  have := h q hq
  simp [List.getD, List.getElem?_eq_getElem hq] at this
  simp [this]
theorem any_one {l : List Nat} {g : Nat → Bool} {q : Nat} (hq : q < l.length) (h : g (l.getD q 0) = true) : l.any g = true := by
  rw [List.any_eq_true]
  exact ⟨l[q], List.getElem_mem hq, by simpa [List.getD, List.getElem?_eq_getElem hq] using h⟩
theorem getD_mem {l : List Nat} {q : Nat} (hq : q < l.length) : l.getD q 0 ∈ l := by
  simp [List.getD, List.getElem?_eq_getElem hq]

set_option maxRecDepth 100000 in
set_option maxHeartbeats 1600000 in
theorem index54 (base : Nat) (v : Value) (P l : List Nat) (g : Nat → Bool) (kb : Nat) (w : World) (hO : w.ownsRow base 67 1 v l.length (l.map (ptrAt P))) (hl : l.length ≤ 9223372036854775807)
    (H : ∀ q, q < l.length → ∀ wx, Kept (fun _ => False) w wx → Calls Try.prog 54 #[.pointer (some ⟨P.getD (l.getD q 0) 0, 0, none⟩), .pointer (some ⟨kb, 0, none⟩)] wx fun e w' => e = .returned (.bool (g (l.getD q 0))) ∧ Kept (fun _ => False) wx w') :
    Calls Try.prog 56 #[v, .func (.func 54) #[] #[.pointer (some ⟨kb, 0, none⟩)]] w fun e w' => IxOut w (l.any g) e w' := by
  obtain ⟨p, cap, hrv⟩ := ownsRow_form hO
  subst hrv
  go_enter Try.func56, Try.ntmps56
  go_wp2
  go_loopg [8] l.length (fun n i wx => ∃ k : Nat, Hid (k + n = l.length) ∧ i = .int .i64 k ∧ Hid (∀ j, j < k → g (l.getD j 0) = false) ∧ Kept (fun _ => False) w wx)
  case atStart => exact ⟨0, Nat.zero_add _, rfl, fun j h => absurd h (by omega), Kept.refl _ _⟩
  case round =>
    obtain ⟨k, hkn, rfl, HA, hK⟩ := hrel
    obtain ⟨m, hm⟩ : ∃ m, m = gk := ⟨gk, rfl⟩
    subst hm
    have hO6 := own_kept hO hK (fun _ _ h => h)
    by_cases hlt : k < l.length
    · obtain ⟨sb, cap', hrv, r0⟩ := ptr_cell hO6 hlt
      simp only [Value.slice.injEq] at hrv
      obtain ⟨hp, _, hcap⟩ := hrv
      subst hp hcap
      have hf := H k hlt wr hK
      have HNS := hide (fun h : g (l.getD k 0) = false => (fun j (hj : j < k + 1) => by
          rcases Nat.lt_or_eq_of_le (Nat.lt_succ_iff.1 hj) with h1 | h1
          · exact HA.out j h1
          · subst h1; exact h : ∀ j, j < k + 1 → g (l.getD j 0) = false))
      have HAN := hide (fun h : g (l.getD k 0) = true => any_one hlt h)
      generalize g (l.getD k 0) = gv at *
      obtain ⟨pq, hpq⟩ : ∃ pq, pq = P.getD (l.getD k 0) 0 := ⟨_, rfl⟩
      rw [← hpq] at r0 hf
      clear HA hpq H
      go_wp2_with fail
      refine hf.mono ?_
      rintro e w7 ⟨rfl, hK7⟩
      have hK8 := hK.trans hK7
      cases gv
      · have HN := hide (HNS.out rfl)
        clear HNS HAN
        go_wp2
        go_roundg (m - 1)
        case measure => have := hkn.out; omega
        case rel => exact ⟨k + 1, by have := hkn.out; unfold Hid; omega, by go_num, HN.out, hK8⟩
      · have HN := hide (HAN.out rfl)
        clear HNS HAN
        go_wp2
        go_ret
        exact ⟨⟨(k : Int), rfl, by rw [HN.out]; simp⟩, hK8⟩
    · have HF : Hid (l.any g = false) := any_none (fun q hq => HA.out q (by omega))
      clear HA
      go_wp2
      go_ret
      exact ⟨⟨-1, rfl, by rw [HF.out]; rfl⟩, hK⟩
set_option maxHeartbeats 800000 in
theorem contains54 (base : Nat) (v : Value) (P l : List Nat) (g : Nat → Bool) (kb : Nat) (w : World) (hO : w.ownsRow base 67 1 v l.length (l.map (ptrAt P))) (hl : l.length ≤ 9223372036854775807)
    (H : ∀ q, q < l.length → ∀ wx, Kept (fun _ => False) w wx → Calls Try.prog 54 #[.pointer (some ⟨P.getD (l.getD q 0) 0, 0, none⟩), .pointer (some ⟨kb, 0, none⟩)] wx fun e w' => e = .returned (.bool (g (l.getD q 0))) ∧ Kept (fun _ => False) wx w') :
    Calls Try.prog 45 #[v, .func (.func 54) #[] #[.pointer (some ⟨kb, 0, none⟩)]] w fun e w' => e = .returned (.bool (l.any g)) ∧ Kept (fun _ => False) w w' := by
  have hix := index54 base v P l g kb w hO hl H
  obtain ⟨p, cap, hrv⟩ := ownsRow_form hO
  subst hrv
  clear H
  generalize l.any g = gv at *
  go_enter Try.func45, Try.ntmps45
  go_wp2_with fail
  refine hix.mono ?_
  intro e w1 hOut
  obtain ⟨x, rfl, hx⟩ := hOut.res
  have hK := hOut.kept
  go_wp2
  go_ret
  exact ⟨by rw [← hx]; rfl, hK⟩

set_option maxRecDepth 100000 in
set_option maxHeartbeats 1600000 in
theorem index55 (base : Nat) (v : Value) (P l : List Nat) (g : Nat → Bool) (kb : Nat) (w : World) (hO : w.ownsRow base 67 1 v l.length (l.map (ptrAt P))) (hl : l.length ≤ 9223372036854775807)
    (H : ∀ q, q < l.length → ∀ wx, Kept (fun _ => False) w wx → Calls Try.prog 55 #[.pointer (some ⟨P.getD (l.getD q 0) 0, 0, none⟩), .pointer (some ⟨kb, 0, none⟩)] wx fun e w' => e = .returned (.bool (g (l.getD q 0))) ∧ Kept (fun _ => False) wx w') :
    Calls Try.prog 56 #[v, .func (.func 55) #[] #[.pointer (some ⟨kb, 0, none⟩)]] w fun e w' => IxOut w (l.any g) e w' := by
  obtain ⟨p, cap, hrv⟩ := ownsRow_form hO
  subst hrv
  go_enter Try.func56, Try.ntmps56
  go_wp2
  go_loopg [8] l.length (fun n i wx => ∃ k : Nat, Hid (k + n = l.length) ∧ i = .int .i64 k ∧ Hid (∀ j, j < k → g (l.getD j 0) = false) ∧ Kept (fun _ => False) w wx)
  case atStart => exact ⟨0, Nat.zero_add _, rfl, fun j h => absurd h (by omega), Kept.refl _ _⟩
  case round =>
    obtain ⟨k, hkn, rfl, HA, hK⟩ := hrel
    obtain ⟨m, hm⟩ : ∃ m, m = gk := ⟨gk, rfl⟩
    subst hm
    have hO6 := own_kept hO hK (fun _ _ h => h)
    by_cases hlt : k < l.length
    · obtain ⟨sb, cap', hrv, r0⟩ := ptr_cell hO6 hlt
      simp only [Value.slice.injEq] at hrv
      obtain ⟨hp, _, hcap⟩ := hrv
      subst hp hcap
      have hf := H k hlt wr hK
      have HNS := hide (fun h : g (l.getD k 0) = false => (fun j (hj : j < k + 1) => by
          rcases Nat.lt_or_eq_of_le (Nat.lt_succ_iff.1 hj) with h1 | h1
          · exact HA.out j h1
          · subst h1; exact h : ∀ j, j < k + 1 → g (l.getD j 0) = false))
      have HAN := hide (fun h : g (l.getD k 0) = true => any_one hlt h)
      generalize g (l.getD k 0) = gv at *
      obtain ⟨pq, hpq⟩ : ∃ pq, pq = P.getD (l.getD k 0) 0 := ⟨_, rfl⟩
      rw [← hpq] at r0 hf
      clear HA hpq H
      go_wp2_with fail
      refine hf.mono ?_
      rintro e w7 ⟨rfl, hK7⟩
      have hK8 := hK.trans hK7
      cases gv
      · have HN := hide (HNS.out rfl)
        clear HNS HAN
        go_wp2
        go_roundg (m - 1)
        case measure => have := hkn.out; omega
        case rel => exact ⟨k + 1, by have := hkn.out; unfold Hid; omega, by go_num, HN.out, hK8⟩
      · have HN := hide (HAN.out rfl)
        clear HNS HAN
        go_wp2
        go_ret
        exact ⟨⟨(k : Int), rfl, by rw [HN.out]; simp⟩, hK8⟩
    · have HF : Hid (l.any g = false) := any_none (fun q hq => HA.out q (by omega))
      clear HA
      go_wp2
      go_ret
      exact ⟨⟨-1, rfl, by rw [HF.out]; rfl⟩, hK⟩
set_option maxHeartbeats 800000 in
theorem contains55 (base : Nat) (v : Value) (P l : List Nat) (g : Nat → Bool) (kb : Nat) (w : World) (hO : w.ownsRow base 67 1 v l.length (l.map (ptrAt P))) (hl : l.length ≤ 9223372036854775807)
    (H : ∀ q, q < l.length → ∀ wx, Kept (fun _ => False) w wx → Calls Try.prog 55 #[.pointer (some ⟨P.getD (l.getD q 0) 0, 0, none⟩), .pointer (some ⟨kb, 0, none⟩)] wx fun e w' => e = .returned (.bool (g (l.getD q 0))) ∧ Kept (fun _ => False) wx w') :
    Calls Try.prog 45 #[v, .func (.func 55) #[] #[.pointer (some ⟨kb, 0, none⟩)]] w fun e w' => e = .returned (.bool (l.any g)) ∧ Kept (fun _ => False) w w' := by
  have hix := index55 base v P l g kb w hO hl H
  obtain ⟨p, cap, hrv⟩ := ownsRow_form hO
  subst hrv
  clear H
  generalize l.any g = gv at *
  go_enter Try.func45, Try.ntmps45
  go_wp2_with fail
  refine hix.mono ?_
  intro e w1 hOut
  obtain ⟨x, rfl, hx⟩ := hOut.res
  have hK := hOut.kept
  go_wp2
  go_ret
  exact ⟨by rw [← hx]; rfl, hK⟩

set_option maxRecDepth 100000 in
set_option maxHeartbeats 1600000 in
theorem index46 (base : Nat) (v : Value) (P l : List Nat) (g : Nat → Bool) (ka kb : Nat) (w : World) (hO : w.ownsRow base 67 1 v l.length (l.map (ptrAt P))) (hl : l.length ≤ 9223372036854775807)
    (H : ∀ q, q < l.length → ∀ wx, Kept (fun _ => False) w wx → Calls Try.prog 46 #[.pointer (some ⟨P.getD (l.getD q 0) 0, 0, none⟩), .pointer (some ⟨ka, 0, none⟩), .pointer (some ⟨kb, 0, none⟩)] wx fun e w' => e = .returned (.bool (g (l.getD q 0))) ∧ Kept (fun _ => False) wx w') :
    Calls Try.prog 56 #[v, .func (.func 46) #[] #[.pointer (some ⟨ka, 0, none⟩), .pointer (some ⟨kb, 0, none⟩)]] w fun e w' => IxOut w (l.any g) e w' := by
  obtain ⟨p, cap, hrv⟩ := ownsRow_form hO
  subst hrv
  go_enter Try.func56, Try.ntmps56
  go_wp2
  go_loopg [8] l.length (fun n i wx => ∃ k : Nat, Hid (k + n = l.length) ∧ i = .int .i64 k ∧ Hid (∀ j, j < k → g (l.getD j 0) = false) ∧ Kept (fun _ => False) w wx)
  case atStart => exact ⟨0, Nat.zero_add _, rfl, fun j h => absurd h (by omega), Kept.refl _ _⟩
  case round =>
    obtain ⟨k, hkn, rfl, HA, hK⟩ := hrel
    obtain ⟨m, hm⟩ : ∃ m, m = gk := ⟨gk, rfl⟩
    subst hm
    have hO6 := own_kept hO hK (fun _ _ h => h)
    by_cases hlt : k < l.length
    · obtain ⟨sb, cap', hrv, r0⟩ := ptr_cell hO6 hlt
      simp only [Value.slice.injEq] at hrv
      obtain ⟨hp, _, hcap⟩ := hrv
      subst hp hcap
      have hf := H k hlt wr hK
      have HNS := hide (fun h : g (l.getD k 0) = false => (fun j (hj : j < k + 1) => by
          rcases Nat.lt_or_eq_of_le (Nat.lt_succ_iff.1 hj) with h1 | h1
          · exact HA.out j h1
          · subst h1; exact h : ∀ j, j < k + 1 → g (l.getD j 0) = false))
      have HAN := hide (fun h : g (l.getD k 0) = true => any_one hlt h)
      generalize g (l.getD k 0) = gv at *
      obtain ⟨pq, hpq⟩ : ∃ pq, pq = P.getD (l.getD k 0) 0 := ⟨_, rfl⟩
      rw [← hpq] at r0 hf
      clear HA hpq H
      go_wp2_with fail
      refine hf.mono ?_
      rintro e w7 ⟨rfl, hK7⟩
      have hK8 := hK.trans hK7
      cases gv
      · have HN := hide (HNS.out rfl)
        clear HNS HAN
        go_wp2
        go_roundg (m - 1)
        case measure => have := hkn.out; omega
        case rel => exact ⟨k + 1, by have := hkn.out; unfold Hid; omega, by go_num, HN.out, hK8⟩
      · have HN := hide (HAN.out rfl)
        clear HNS HAN
        go_wp2
        go_ret
        exact ⟨⟨(k : Int), rfl, by rw [HN.out]; simp⟩, hK8⟩
    · have HF : Hid (l.any g = false) := any_none (fun q hq => HA.out q (by omega))
      clear HA
      go_wp2
      go_ret
      exact ⟨⟨-1, rfl, by rw [HF.out]; rfl⟩, hK⟩
set_option maxHeartbeats 800000 in
theorem contains46 (base : Nat) (v : Value) (P l : List Nat) (g : Nat → Bool) (ka kb : Nat) (w : World) (hO : w.ownsRow base 67 1 v l.length (l.map (ptrAt P))) (hl : l.length ≤ 9223372036854775807)
    (H : ∀ q, q < l.length → ∀ wx, Kept (fun _ => False) w wx → Calls Try.prog 46 #[.pointer (some ⟨P.getD (l.getD q 0) 0, 0, none⟩), .pointer (some ⟨ka, 0, none⟩), .pointer (some ⟨kb, 0, none⟩)] wx fun e w' => e = .returned (.bool (g (l.getD q 0))) ∧ Kept (fun _ => False) wx w') :
    Calls Try.prog 45 #[v, .func (.func 46) #[] #[.pointer (some ⟨ka, 0, none⟩), .pointer (some ⟨kb, 0, none⟩)]] w fun e w' => e = .returned (.bool (l.any g)) ∧ Kept (fun _ => False) w w' := by
  have hix := index46 base v P l g ka kb w hO hl H
  obtain ⟨p, cap, hrv⟩ := ownsRow_form hO
  subst hrv
  clear H
  generalize l.any g = gv at *
  go_enter Try.func45, Try.ntmps45
  go_wp2_with fail
  refine hix.mono ?_
  intro e w1 hOut
  obtain ⟨x, rfl, hx⟩ := hOut.res
  have hK := hOut.kept
  go_wp2
  go_ret
  exact ⟨by rw [← hx]; rfl, hK⟩
end Go.Proofs.Ytagklnaaoclmhaa
