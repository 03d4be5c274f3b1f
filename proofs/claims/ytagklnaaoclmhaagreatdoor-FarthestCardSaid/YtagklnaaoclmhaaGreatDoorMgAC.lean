import Derived.Test.YtagklnaaoclmhaaGreatDoorMgAB
set_option linter.unusedSimpArgs false
set_option linter.unusedVariables false
namespace Go.Proofs.YtagklnaaoclmhaaGreatDoor
open Go.RowKit

/-! The grammar of a's and b's around one another. -/
def G1n : List Nd := [⟨0, [97], [], 0, [], 0, []⟩, ⟨3, [], [], 0, [115], 8, []⟩, ⟨0, [98], [], 1, [], 0, []⟩, ⟨5, [], [], 0, [], 0, [0, 1, 2]⟩, ⟨0, [], [], 2, [], 0, []⟩, ⟨5, [], [], 0, [], 0, [4]⟩, ⟨4, [], [], 0, [], 0, [3, 5]⟩]
def G1r : List Rl := [⟨[115], 0, 6⟩]

section
variable {b : Nat → Nat} {len : Nat}
theorem g1_0 (f a dp : Nat) : mtc b len G1r G1n (f + 1) 0 a dp = some (if a < len ∧ b a = 97 then ⟨some (a + 1), [], 0, []⟩ else ⟨none, [(a, 0)], 0, []⟩) := by
  rw [mtc, if_pos (by decide)]
  congr 1
  unfold tmO tmT litB
  simp only [show (nth G1n 0).kind = 0 from rfl, show (nth G1n 0).text = [97] from rfl, show (nth G1n 0).term = 0 from rfl, if_true, List.length_cons, List.length_nil, Nat.zero_add]
  by_cases h : a < len ∧ b a = 97
  · rw [if_pos h, if_pos]
    · rfl
    · simp [List.range_succ]; omega
  · rw [if_neg h, if_neg]
    · rfl
    · simp [List.range_succ]; omega
theorem g1_2 (f a dp : Nat) : mtc b len G1r G1n (f + 1) 2 a dp = some (if a < len ∧ b a = 98 then ⟨some (a + 1), [], 0, []⟩ else ⟨none, [(a, 1)], 0, []⟩) := by
  rw [mtc, if_pos (by decide)]
  congr 1
  unfold tmO tmT litB
  simp only [show (nth G1n 2).kind = 0 from rfl, show (nth G1n 2).text = [98] from rfl, show (nth G1n 2).term = 1 from rfl, if_true, List.length_cons, List.length_nil, Nat.zero_add]
  by_cases h : a < len ∧ b a = 98
  · rw [if_pos h, if_pos]
    · rfl
    · simp [List.range_succ]; omega
  · rw [if_neg h, if_neg]
    · rfl
    · simp [List.range_succ]; omega
theorem g1_5 (f a dp : Nat) (ha : a ≤ len) : mtc b len G1r G1n (f + 2) 5 a dp = some ⟨some a, [], 0, []⟩ := by
  have h4 : mtc b len G1r G1n (f + 1) 4 a dp = some ⟨some a, [], 0, []⟩ := by
    rw [mtc, if_pos (by decide)]
    congr 1
    unfold tmO tmT litB
    simp [show (nth G1n 4).kind = 0 from rfl, show (nth G1n 4).text = [] from rfl, ha]
  rw [mtc, if_neg (by decide), if_neg (by decide), if_neg (by decide), if_pos (by decide)]
  show sqO _ [4] a = _
  rw [sqO, h4]
  rfl
theorem g1_1 {f a dp : Nat} {o : Ot} (h : mtc b len G1r G1n f 6 a (dp + 1) = some o) : mtc b len G1r G1n (f + 1) 1 a dp = some ⟨o.to, o.ev, o.rn + 1, match o.to with | some t => ⟨0, a, t, dp⟩ :: o.tr | none => []⟩ := by
  rw [mtc, if_neg (by decide), if_pos (by decide)]
  rw [show isI G1r (ruI G1r (nth G1n 1)) = 6 by decide, h, show ruI G1r (nth G1n 1) = 0 by decide]
  rfl
/-- No a: nothing. -/
theorem g1_no {a dp : Nat} (ha : a ≤ len) (h : ¬ (a < len ∧ b a = 97)) : mtc b len G1r G1n 3 6 a dp = some ⟨some a, [(a, 0)], 0, []⟩ := by
  have h3 : mtc b len G1r G1n 2 3 a dp = some ⟨none, [(a, 0)], 0, []⟩ := by
    rw [mtc, if_neg (by decide), if_neg (by decide), if_neg (by decide), if_pos (by decide)]
    show sqO _ [0, 1, 2] a = _
    rw [sqO, g1_0, if_neg h]
  rw [mtc, if_neg (by decide), if_neg (by decide), if_pos (by decide)]
  show chO _ [3, 5] = _
  rw [chO, h3]
  simp only [Option.isSome_none, Bool.false_eq_true, if_false]
  rw [chO, g1_5 0 a dp ha]
  simp
/-- An a: what stands in it, then a b or nothing. -/
theorem g1_a {f a dp t : Nat} {o : Ot} (ha : a < len) (hc : b a = 97) (h : mtc b len G1r G1n f 6 (a + 1) (dp + 1) = some o) (ht : o.to = some t) :
    mtc b len G1r G1n (f + 3) 6 a dp = some (if t < len ∧ b t = 98 then ⟨some (t + 1), o.ev, o.rn + 1, ⟨0, a + 1, t, dp⟩ :: o.tr⟩ else ⟨some a, o.ev ++ [(t, 1)], o.rn + 1, []⟩) := by
  have h1 := g1_1 h
  rw [ht] at h1
  have h3 : mtc b len G1r G1n (f + 2) 3 a dp = some (if t < len ∧ b t = 98 then ⟨some (t + 1), o.ev, o.rn + 1, ⟨0, a + 1, t, dp⟩ :: o.tr⟩ else ⟨none, o.ev ++ [(t, 1)], o.rn + 1, []⟩) := by
    rw [mtc, if_neg (by decide), if_neg (by decide), if_neg (by decide), if_pos (by decide)]
    show sqO _ [0, 1, 2] a = _
    rw [sqO, g1_0, if_pos ⟨ha, hc⟩]
    simp only
    rw [sqO, h1]
    simp only
    rw [sqO, g1_2]
    by_cases hb : t < len ∧ b t = 98
    · rw [if_pos hb, if_pos hb]
      simp only
      rw [sqO]
      simp
    · rw [if_neg hb, if_neg hb]
      simp
  rw [mtc, if_neg (by decide), if_neg (by decide), if_pos (by decide)]
  show chO _ [3, 5] = _
  rw [chO, h3]
  by_cases hb : t < len ∧ b t = 98
  · rw [if_pos hb, if_pos hb]
    simp
  · rw [if_neg hb, if_neg hb]
    simp only [Option.isSome_none, Bool.false_eq_true, if_false]
    rw [chO, g1_5 f a dp (by omega)]
    simp

/-- A a's, then B b's, and no more. -/
structure AsBs (b : Nat → Nat) (len A B : Nat) : Prop where
  le : A + B ≤ len
  aa : ∀ k, k < A → b k = 97
  na : ¬ (A < len ∧ b A = 97)
  bs : ∀ k, k < B → b (A + k) = 98
  nb : ¬ (A + B < len ∧ b (A + B) = 98)

def g1T (A k dp : Nat) : List Nod := (List.range k).map (fun j => ⟨0, A - k + 1 + j, A + k - 1 - j, dp + j⟩)
theorem g1T_succ {A k dp : Nat} (hk : k < A) : (⟨0, A - k, A + k, dp⟩ : Nod) :: g1T A k (dp + 1) = g1T A (k + 1) dp := by
  unfold g1T
  rw [List.range_succ_eq_map, List.map_cons, List.map_map]
  congr 1
  · congr 1 <;> omega
  · apply List.map_congr_left
    intro j hj
    show (⟨0, A - k + 1 + j, A + k - 1 - j, dp + 1 + j⟩ : Nod) = ⟨0, A - (k + 1) + 1 + (j + 1), A + (k + 1) - 1 - (j + 1), dp + (j + 1)⟩
    congr 1 <;> omega
theorem g1_all {A B : Nat} (h : AsBs b len A B) : ∀ k dp, k ≤ A → ∃ f o, mtc b len G1r G1n f 6 (A - k) dp = some o ∧ o.rn = k ∧ (k ≤ B → o.to = some (A + k) ∧ o.tr = g1T A k dp) ∧ (B < k → o.to = some (A - k) ∧ o.tr = []) := by
  have hle := h.le
  intro k
  induction k with
  | zero =>
    intro dp _
    exact ⟨3, _, g1_no (by omega) h.na, rfl, fun _ => ⟨rfl, rfl⟩, fun hB => absurd hB (by omega)⟩
  | succ k ih =>
    intro dp hk
    obtain ⟨f, o, h1, h2, h3, h4⟩ := ih (dp + 1) (by omega)
    have hb := h.aa (A - (k + 1)) (by omega)
    have e1 : A - (k + 1) + 1 = A - k := by omega
    by_cases hB : k ≤ B
    · obtain ⟨h5, h6⟩ := h3 hB
      have hs := g1_a (b := b) (len := len) (dp := dp) (t := A + k) (o := o) (f := f) (a := A - (k + 1)) (by omega) hb (by rw [e1]; exact h1) h5
      by_cases hB2 : k + 1 ≤ B
      · have hbb := h.bs k (by omega)
        rw [if_pos ⟨by omega, hbb⟩] at hs
        refine ⟨f + 3, _, hs, by show o.rn + 1 = k + 1; omega, fun _ => ⟨rfl, ?_⟩, fun h' => absurd h' (by omega)⟩
        show (⟨0, A - (k + 1) + 1, A + k, dp⟩ : Nod) :: o.tr = _
        rw [h6, e1, g1T_succ (by omega)]
      · have hkB : k = B := by omega
        rw [if_neg (by rw [hkB]; exact h.nb)] at hs
        exact ⟨f + 3, _, hs, by show o.rn + 1 = k + 1; omega, fun h' => absurd h' (by omega), fun _ => ⟨rfl, rfl⟩⟩
    · obtain ⟨h5, h6⟩ := h4 (by omega)
      have hs := g1_a (b := b) (len := len) (dp := dp) (t := A - k) (o := o) (f := f) (a := A - (k + 1)) (by omega) hb (by rw [e1]; exact h1) h5
      have hna : ¬ (A - k < len ∧ b (A - k) = 98) := fun x => by
        have := h.aa (A - k) (by omega)
        omega
      rw [if_neg hna] at hs
      exact ⟨f + 3, _, hs, by show o.rn + 1 = k + 1; omega, fun h' => absurd h' (by omega), fun _ => ⟨rfl, rfl⟩⟩
/-- The whole of it: from the first place on. -/
theorem g1_run {A B : Nat} (h : AsBs b len A B) : ∃ f o, mtc b len G1r G1n f 6 0 1 = some o ∧ o.rn = A ∧ (A ≤ B → o.to = some (2 * A) ∧ o.tr = g1T A A 1) ∧ (B < A → o.to = some 0 ∧ o.tr = []) := by
  obtain ⟨f, o, h1, h2, h3, h4⟩ := g1_all h A 1 (Nat.le_refl _)
  rw [Nat.sub_self] at h1 h4
  refine ⟨f, o, h1, h2, fun hA => ?_, h4⟩
  obtain ⟨h5, h6⟩ := h3 hA
  exact ⟨by rw [h5]; congr 1; omega, h6⟩
end

/-! The grammar of words. -/
def G2n : List Nd := [⟨3, [], [], 0, [119], 4, []⟩, ⟨0, [32], [], 0, [], 0, []⟩, ⟨3, [], [], 0, [119], 11, []⟩, ⟨5, [], [], 0, [], 0, [1, 2]⟩, ⟨4, [], [], 0, [], 0, [3]⟩, ⟨7, [], [], 0, [], 0, [4]⟩, ⟨2, [], [], 1, [], 0, []⟩, ⟨10, [], [], 0, [], 0, [6]⟩, ⟨5, [], [], 0, [], 0, [0, 5, 7]⟩, ⟨4, [], [], 0, [], 0, [8]⟩,
  ⟨0, [111, 110, 101], [], 2, [], 0, []⟩, ⟨5, [], [], 0, [], 0, [10]⟩, ⟨0, [116, 119, 111], [], 3, [], 0, []⟩, ⟨5, [], [], 0, [], 0, [12]⟩, ⟨0, [116, 104, 114, 101, 101], [], 4, [], 0, []⟩, ⟨5, [], [], 0, [], 0, [14]⟩, ⟨4, [], [], 0, [], 0, [11, 13, 15]⟩]
def G2r : List Rl := [⟨[115], 0, 9⟩, ⟨[119], 18, 16⟩]

/-- The greatest place of some failures; -1: none. -/
def farI : List (Nat × Nat) → Int
  | [] => -1
  | e :: l => if farI l < (e.1 : Int) then (e.1 : Int) else farI l
theorem farI_app : ∀ l m, farI (l ++ m) = if farI l < farI m then farI m else farI l
  | [], m => by
    rw [List.nil_append, farI]
    split
    · rfl
    · have : -1 ≤ farI m := by
        induction m with
        | nil => simp [farI]
        | cons e m ih => rw [farI]; split <;> omega
      omega
  | e :: l, m => by
    rw [List.cons_append, farI, farI_app l m, farI]
    (repeat' split) <;> first | rfl | omega

theorem farI_rep {a : Nat} : ∀ l : List (Nat × Nat), (∀ e ∈ l, e.1 = a) → l ≠ [] → farI l = (a : Int)
  | [], _, h => absurd rfl h
  | [e], h, _ => by
    have := h e (by simp)
    rw [farI, farI, this]
    simp
    omega
  | e :: e' :: l, h, _ => by
    have h1 := farI_rep (e' :: l) (fun x hx => h x (List.mem_cons_of_mem _ hx)) (by simp)
    have h2 := h e (by simp)
    rw [farI, h1, h2]
    split <;> rfl

section
variable {b : Nat → Nat} {len : Nat}
/-- How long the word is that stands there. -/
def wl (b : Nat → Nat) (len a : Nat) : Option Nat :=
  if litB b len a [111, 110, 101] then some 3 else if litB b len a [116, 119, 111] then some 3 else if litB b len a [116, 104, 114, 101, 101] then some 5 else none

theorem g2_lit {f a dp i : Nat} (h0 : (nth G2n i).kind = 0) : mtc b len G2r G2n (f + 1) i a dp = some (if litB b len a (nth G2n i).text then ⟨some (a + (nth G2n i).text.length), [], 0, []⟩ else ⟨none, [(a, (nth G2n i).term)], 0, []⟩) := by
  rw [mtc, if_pos (by omega)]
  congr 1
  unfold tmO tmT
  rw [if_pos h0]
  split <;> simp
theorem g2_one {f a dp i j : Nat} (h5 : (nth G2n i).kind = 5) (hs : (nth G2n i).subs = [j]) {o : Ot} (h : mtc b len G2r G2n f j a dp = some o) (ho : o.tr = []) : mtc b len G2r G2n (f + 1) i a dp = some o := by
  rw [mtc, if_neg (by omega), if_neg (by omega), if_neg (by omega), if_pos h5, hs, sqO, h]
  cases o with
  | mk to ev rn tr =>
    dsimp only at ho
    subst ho
    cases to with
    | none => rfl
    | some t => simp [sqO]
/-- A word, or what failed. -/
theorem g2_w (f a dp : Nat) : ∃ ev, mtc b len G2r G2n (f + 3) 16 a dp = some ⟨(wl b len a).map (a + ·), ev, 0, []⟩ ∧ ((wl b len a).isSome → farI ev ≤ a) ∧ (wl b len a = none → farI ev = a) := by
  have h1 : mtc b len G2r G2n (f + 2) 11 a dp = some (if litB b len a [111, 110, 101] then ⟨some (a + 3), [], 0, []⟩ else ⟨none, [(a, 2)], 0, []⟩) := g2_one (f := f + 1) (j := 10) rfl rfl (g2_lit rfl) (by split <;> rfl)
  have h2 : mtc b len G2r G2n (f + 2) 13 a dp = some (if litB b len a [116, 119, 111] then ⟨some (a + 3), [], 0, []⟩ else ⟨none, [(a, 3)], 0, []⟩) := g2_one (f := f + 1) (j := 12) rfl rfl (g2_lit rfl) (by split <;> rfl)
  have h3 : mtc b len G2r G2n (f + 2) 15 a dp = some (if litB b len a [116, 104, 114, 101, 101] then ⟨some (a + 5), [], 0, []⟩ else ⟨none, [(a, 4)], 0, []⟩) := g2_one (f := f + 1) (j := 14) rfl rfl (g2_lit rfl) (by split <;> rfl)
  have hv : mtc b len G2r G2n (f + 3) 16 a dp = some (if litB b len a [111, 110, 101] then ⟨some (a + 3), [], 0, []⟩ else if litB b len a [116, 119, 111] then ⟨some (a + 3), [(a, 2)], 0, []⟩ else if litB b len a [116, 104, 114, 101, 101] then ⟨some (a + 5), [(a, 2), (a, 3)], 0, []⟩ else ⟨none, [(a, 2), (a, 3), (a, 4)], 0, []⟩) := by
    rw [mtc, if_neg (by decide), if_neg (by decide), if_pos (by decide), show (nth G2n 16).subs = [11, 13, 15] from rfl]
    rw [chO, h1]
    by_cases k1 : litB b len a [111, 110, 101] = true
    · rw [if_pos k1, if_pos k1]; rfl
    rw [if_neg k1, if_neg k1]
    simp only [Option.isSome_none, Bool.false_eq_true, if_false]
    rw [chO, h2]
    by_cases k2 : litB b len a [116, 119, 111] = true
    · rw [if_pos k2, if_pos k2]; rfl
    rw [if_neg k2, if_neg k2]
    simp only [Option.isSome_none, Bool.false_eq_true, if_false]
    rw [chO, h3]
    by_cases k3 : litB b len a [116, 104, 114, 101, 101] = true
    · rw [if_pos k3, if_pos k3]; rfl
    rw [if_neg k3, if_neg k3]
    rfl
  rw [hv]
  unfold wl
  by_cases k1 : litB b len a [111, 110, 101] = true
  · rw [if_pos k1, if_pos k1]
    exact ⟨[], rfl, fun _ => by show (-1 : Int) ≤ a; omega, fun h => by cases h⟩
  rw [if_neg k1, if_neg k1]
  by_cases k2 : litB b len a [116, 119, 111] = true
  · rw [if_pos k2, if_pos k2]
    exact ⟨[(a, 2)], rfl, fun _ => by rw [farI_rep (a := a) _ (by simp) (by simp)]; exact Int.le_refl _, fun h => by cases h⟩
  rw [if_neg k2, if_neg k2]
  by_cases k3 : litB b len a [116, 104, 114, 101, 101] = true
  · rw [if_pos k3, if_pos k3]
    exact ⟨[(a, 2), (a, 3)], rfl, fun _ => by rw [farI_rep (a := a) _ (by simp) (by simp)]; exact Int.le_refl _, fun h => by cases h⟩
  rw [if_neg k3, if_neg k3]
  exact ⟨[(a, 2), (a, 3), (a, 4)], rfl, fun h => absurd h (by simp), fun _ => farI_rep (a := a) _ (by simp) (by simp)⟩
/-- A run of the rule of words. -/
theorem g2_name {i : Nat} (h3 : (nth G2n i).kind = 3) (hn : ruI G2r (nth G2n i) = 1) (f a dp : Nat) : ∃ ev tr, mtc b len G2r G2n (f + 4) i a dp = some ⟨(wl b len a).map (a + ·), ev, 1, tr⟩ ∧ ((wl b len a).isSome → farI ev ≤ a) ∧ (wl b len a = none → farI ev = a) := by
  obtain ⟨ev, h1, h2, h4⟩ := g2_w (b := b) (len := len) f a (dp + 1)
  rw [mtc, if_neg (by omega), if_pos h3, hn, show isI G2r 1 = 16 by decide, h1]
  exact ⟨ev, _, rfl, h2, h4⟩
theorem lit_blank (a : Nat) : litB b len a [32] = decide (a < len ∧ b a = 32) := by
  unfold litB
  rw [Bool.eq_iff_iff]
  simp [List.range_succ]
  omega
/-- A blank and a word. -/
theorem g2_bw (f a dp : Nat) : ∃ o, mtc b len G2r G2n (f + 6) 4 a dp = some o ∧ o.rn ≤ 1 ∧
    (¬ (a < len ∧ b a = 32) → o.to = none ∧ farI o.ev = a) ∧
    ((a < len ∧ b a = 32) → wl b len (a + 1) = none → o.to = none ∧ farI o.ev = ((a + 1 : Nat) : Int)) ∧
    ((a < len ∧ b a = 32) → ∀ l, wl b len (a + 1) = some l → o.to = some (a + 1 + l) ∧ farI o.ev ≤ ((a + 1 : Nat) : Int)) := by
  obtain ⟨ev, tr, h1, h2, h3⟩ := g2_name (b := b) (len := len) (i := 2) rfl (by decide) f (a + 1) dp
  have hl := g2_lit (b := b) (len := len) (f := f + 3) (a := a) (dp := dp) (i := 1) rfl
  rw [show (nth G2n 1).text = [32] from rfl, lit_blank] at hl
  rw [mtc, if_neg (by decide), if_neg (by decide), if_pos (by decide), show (nth G2n 4).subs = [3] from rfl, chO, mtc, if_neg (by decide), if_neg (by decide), if_neg (by decide), if_pos (by decide), show (nth G2n 3).subs = [1, 2] from rfl, sqO, hl]
  by_cases hb : a < len ∧ b a = 32
  · rw [if_pos (by simpa using hb)]
    simp only [List.length_cons, List.length_nil, Nat.zero_add]
    rw [sqO, h1]
    cases hw : wl b len (a + 1) with
    | none =>
      simp only [Option.map_none, Option.isSome_none, Bool.false_eq_true, if_false, chO, Option.map_some]
      refine ⟨_, rfl, by simp, fun h => absurd hb h, fun _ _ => ⟨rfl, ?_⟩, fun _ l hl => by cases hl⟩
      simp
      exact h3 hw
    | some l =>
      simp only [Option.map_some, sqO, Option.isSome_some, if_true]
      refine ⟨_, rfl, by simp, fun h => absurd hb h, fun _ h => (by cases h), fun _ l' hl' => ?_⟩
      cases hl'
      refine ⟨rfl, ?_⟩
      simp
      exact h2 (by rw [hw]; rfl)
  · rw [if_neg (by simpa using hb)]
    simp only [Option.isSome_none, Bool.false_eq_true, if_false, chO, Option.map_some]
    exact ⟨_, rfl, by simp, fun _ => ⟨rfl, by simp [farI]; omega⟩, fun h => absurd h hb, fun h => absurd h hb⟩

/-- From a place to another by blanks and words. -/
inductive Seg (b : Nat → Nat) (len : Nat) : Nat → Nat → Prop
  | refl (p : Nat) : Seg b len p p
  | step {p q l : Nat} (h1 : p < len) (h2 : b p = 32) (h3 : wl b len (p + 1) = some l) (h4 : Seg b len (p + 1 + l) q) : Seg b len p q
theorem wl_le {a l : Nat} (h : wl b len a = some l) : 3 ≤ l ∧ a + l ≤ len := by
  have hl : ∀ t : List UInt8, litB b len a t = true → a + t.length ≤ len := fun t ht => by
    unfold litB at ht
    rw [Bool.and_eq_true, decide_eq_true_eq] at ht
    exact ht.1
  unfold wl at h
  split at h
  · next k => have := hl _ k; cases h; simp at this; omega
  · split at h
    · next k => have := hl _ k; cases h; simp at this; omega
    · split at h
      · next k => have := hl _ k; cases h; simp at this; omega
      · cases h
theorem Seg.le {p q : Nat} (h : Seg b len p q) : p ≤ q := by
  induction h with
  | refl => exact Nat.le_refl _
  | step h1 h2 h3 h4 ih => omega
/-- The repetition: it stops at q; e: the farthest failure. -/
theorem g2_star {p q e : Nat} (h : Seg b len p q) (dp : Nat) (hq : (¬ (q < len ∧ b q = 32) ∧ e = q) ∨ ((q < len ∧ b q = 32) ∧ wl b len (q + 1) = none ∧ e = q + 1)) : ∃ f o, rpO (fun a => mtc b len G2r G2n (f + 6) 4 a dp) f p = some o ∧ o.to = some q ∧ farI o.ev = (e : Int) ∧ o.rn ≤ q - p + 1 := by
  induction h with
  | refl p =>
    obtain ⟨o, h1, h2, h3, h4, h5⟩ := g2_bw (b := b) (len := len) 1 p dp
    refine ⟨1, ?_⟩
    rw [rpO, h1]
    rcases hq with ⟨k1, k2⟩ | ⟨k1, k2, k3⟩
    · obtain ⟨m1, m2⟩ := h3 k1
      simp only [m1]
      exact ⟨_, rfl, rfl, by rw [k2]; exact m2, by dsimp only; omega⟩
    · obtain ⟨m1, m2⟩ := h4 k1 k2
      simp only [m1]
      exact ⟨_, rfl, rfl, by rw [k3]; exact m2, by dsimp only; omega⟩
  | @step p q l h1 h2 h3 h4 ih =>
    obtain ⟨f, o, k1, k2, k3, k4⟩ := ih hq
    obtain ⟨o1, m1, m2, m3, m4, m5⟩ := g2_bw (b := b) (len := len) f p dp
    obtain ⟨n1, n2⟩ := m5 ⟨h1, h2⟩ l h3
    have hle := h4.le
    have hwl := wl_le h3
    refine ⟨f + 1, ?_⟩
    rw [rpO]
    rw [show mtc b len G2r G2n (f + 1 + 6) 4 p dp = some o1 from mtc_le m1 (by omega)]
    simp only [n1]
    rw [rpO_mono (fun a o ho => mtc_le ho (by omega)) f f (p + 1 + l) o (Nat.le_refl _) k1]
    refine ⟨_, rfl, k2, ?_, ?_⟩
    · show farI (o1.ev ++ o.ev) = _
      rw [farI_app, k3]
      have : (p + 1 : Nat) ≤ e := by
        rcases hq with ⟨_, x⟩ | ⟨_, _, x⟩ <;> omega
      split <;> omega
    · show o1.rn + o.rn ≤ _
      omega
/-- The first rule at the first place: it matches the whole, or where it fails farthest. -/
theorem g2_run {e : Nat} (dp : Nat) : (wl b len 0 = none ∧ e = 0 → ∃ f o, mtc b len G2r G2n f 9 0 dp = some o ∧ o.to = none ∧ farI o.ev = (e : Int) ∧ o.rn ≤ len + 2) ∧
    (∀ l, wl b len 0 = some l → Seg b len l len → e = len → ∃ f o, mtc b len G2r G2n f 9 0 dp = some o ∧ o.to = some len ∧ farI o.ev = (e : Int) ∧ o.rn ≤ len + 2) ∧
    (∀ l q, wl b len 0 = some l → Seg b len l q → q < len → ((¬ (q < len ∧ b q = 32) ∧ e = q) ∨ ((q < len ∧ b q = 32) ∧ wl b len (q + 1) = none ∧ e = q + 1)) → ∃ f o, mtc b len G2r G2n f 9 0 dp = some o ∧ o.to = none ∧ farI o.ev = (e : Int) ∧ o.rn ≤ len + 2) := by
  have h9 : ∀ f o, mtc b len G2r G2n (f + 1) 8 0 dp = some o → o.tr = [] ∨ o.to.isSome → ∃ tr, mtc b len G2r G2n (f + 2) 9 0 dp = some ⟨o.to, o.ev, o.rn, tr⟩ := by
    intro f o h ho
    rw [mtc, if_neg (by decide), if_neg (by decide), if_pos (by decide), show (nth G2n 9).subs = [8] from rfl, chO, h]
    cases hto : o.to with
    | none => simp only [Option.isSome_none, Bool.false_eq_true, if_false, chO, Option.map_some, List.append_nil, Nat.add_zero, hto]; exact ⟨_, rfl⟩
    | some t =>
      simp only [hto, Option.isSome_some, if_true]
      exact ⟨o.tr, by cases o; simp_all⟩
  have h7 : ∀ f a, mtc b len G2r G2n (f + 2) 7 a dp = some (if a < len then ⟨none, [], 0, []⟩ else ⟨some a, [(a, 1)], 0, []⟩) := by
    intro f a
    have h6 : mtc b len G2r G2n (f + 1) 6 a dp = some (if a < len then ⟨some (a + 1), [], 0, []⟩ else ⟨none, [(a, 1)], 0, []⟩) := by
      rw [mtc, if_pos (by decide)]
      unfold tmO tmT
      rw [if_neg (by decide)]
      by_cases h : a < len
      · simp [h, show (nth G2n 6).kind = 2 from rfl]
      · simp [h, show (nth G2n 6).term = 1 from rfl]
    rw [mtc, if_neg (by decide), if_neg (by decide), if_neg (by decide), if_neg (by decide), if_neg (by decide), if_neg (by decide), if_neg (by decide), show (nth G2n 7).subs.getD 0 0 = 6 from rfl, h6]
    by_cases h : a < len
    · simp [h, show (nth G2n 7).kind = 10 from rfl]
    · simp [h, show (nth G2n 7).kind = 10 from rfl]
  obtain ⟨ev, tr, w1, w2, w3⟩ := g2_name (b := b) (len := len) (i := 0) rfl (by decide) 0 0 dp
  refine ⟨fun hw => ?_, fun l hl hs he => ?_, fun l q hl hs hq hqq => ?_⟩
  · have h8 : mtc b len G2r G2n 5 8 0 dp = some ⟨none, ev, 1, []⟩ := by
      rw [mtc, if_neg (by decide), if_neg (by decide), if_neg (by decide), if_pos (by decide), show (nth G2n 8).subs = [0, 5, 7] from rfl, sqO, w1, hw.1]
      rfl
    obtain ⟨tr', h⟩ := h9 4 _ h8 (.inl rfl)
    exact ⟨_, _, h, rfl, by rw [hw.2]; exact w3 hw.1, by dsimp only; omega⟩
  all_goals
    obtain ⟨f, o, s1, s2, s3, s4⟩ := g2_star (e := e) hs dp (by first | exact hqq | exact .inl ⟨by omega, he⟩)
    have hle := hs.le
    have hl3 := wl_le hl
    have h5 : mtc b len G2r G2n (f + 7) 5 l dp = some o := by
      rw [mtc, if_neg (by decide), if_neg (by decide), if_neg (by decide), if_neg (by decide), if_neg (by decide), if_pos (by decide), show (nth G2n 5).subs.getD 0 0 = 4 from rfl]
      exact rpO_mono (fun a o ho => ho) f (f + 6) l o (by omega) s1
    have hw0 : mtc b len G2r G2n (f + 7) 0 0 dp = some ⟨some l, ev, 1, tr⟩ := by
      rw [mtc_le w1 (by omega), hl]
      simp
  · have h8 : ∃ tr2, mtc b len G2r G2n (f + 7 + 1) 8 0 dp = some ⟨some len, ev ++ (o.ev ++ [(len, 1)]), 1 + o.rn, tr2⟩ := by
      rw [mtc, if_neg (by decide), if_neg (by decide), if_neg (by decide), if_pos (by decide), show (nth G2n 8).subs = [0, 5, 7] from rfl, sqO, hw0]
      simp only
      rw [sqO, h5]
      simp only [s2]
      rw [sqO, h7 (f + 5) len, if_neg (Nat.lt_irrefl _)]
      simp only [sqO, Option.map_some, Option.isSome_some, if_true, List.append_nil, Nat.add_zero]
      exact ⟨_, rfl⟩
    obtain ⟨tr2, h8⟩ := h8
    obtain ⟨tr', h⟩ := h9 _ _ h8 (.inr rfl)
    refine ⟨_, _, h, rfl, ?_, by dsimp only; omega⟩
    show farI (ev ++ (o.ev ++ [(len, 1)])) = _
    have hev := w2 (by rw [hl]; rfl)
    rw [farI_app, farI_app, s3, farI_rep (a := len) [(len, 1)] (by simp) (by simp)]
    subst he
    split <;> split <;> omega
  · have h8 : mtc b len G2r G2n (f + 7 + 1) 8 0 dp = some ⟨none, ev ++ o.ev, 1 + o.rn, []⟩ := by
      rw [mtc, if_neg (by decide), if_neg (by decide), if_neg (by decide), if_pos (by decide), show (nth G2n 8).subs = [0, 5, 7] from rfl, sqO, hw0]
      simp only
      rw [sqO, h5]
      simp only [s2]
      rw [sqO, h7 (f + 5) q, if_pos hq]
      simp
    obtain ⟨tr', h⟩ := h9 _ _ h8 (.inl rfl)
    refine ⟨_, _, h, rfl, ?_, by dsimp only; omega⟩
    show farI (ev ++ o.ev) = _
    have hev := w2 (by rw [hl]; rfl)
    rw [farI_app, s3]
    split <;> omega
end


/-! What the two texts are. -/
def wordsB : ByteArray := ⟨#[115, 32, 61, 32, 119, 32, 40, 39, 32, 39, 32, 119, 41, 42, 32, 33, 46, 10, 119, 32, 61, 32, 39, 111, 110, 101, 39, 32, 47, 32, 39, 116, 119, 111, 39, 32, 47, 32, 39, 116, 104, 114, 101, 101, 39, 10]⟩
def absB : ByteArray := ⟨#[115, 32, 61, 32, 39, 97, 39, 32, 115, 32, 39, 98, 39, 32, 47, 32, 39, 39, 10]⟩
theorem absB_read : (read absB).1.ns = G1n ∧ (read absB).2 = G1r := ⟨by kernel_rfl, by kernel_rfl⟩
theorem wordsB_read : (read wordsB).1.ns = G2n ∧ (read wordsB).2 = G2r := ⟨by kernel_rfl, by kernel_rfl⟩
theorem absB_chk : refChk absB = (0, 0) := by decide +kernel
theorem wordsB_chk : refChk wordsB = (0, 0) := by decide +kernel
end Go.Proofs.YtagklnaaoclmhaaGreatDoor

namespace Go.Proofs.YtagklnaaoclmhaaGreatDoor
open Go.RowKit

/-! A forest: nodes that lie in one another. -/
inductive For : Nat → Nat → Nat → List Nod → Prop
  | nil {dp a t : Nat} (h : a ≤ t) : For dp a t []
  | cons {dp a t r f e : Nat} {ks rest : List Nod} (h1 : a ≤ f) (hk : For (dp + 1) f e ks) (hr : For dp e t rest) : For dp a t (⟨r, f, e, dp⟩ :: (ks ++ rest))
theorem For.le {dp a t : Nat} {l : List Nod} (h : For dp a t l) : a ≤ t := by
  induction h with
  | nil h => exact h
  | cons h1 hk hr ih1 ih2 => omega
theorem For.widen {dp a t : Nat} {l : List Nod} (h : For dp a t l) {a' : Nat} (ha : a' ≤ a) : For dp a' t l := by
  cases h with
  | nil h => exact .nil (by omega)
  | cons h1 hk hr => exact .cons (by omega) hk hr
theorem For.app {dp a t u : Nat} {l m : List Nod} (h : For dp a t l) (h2 : For dp t u m) : For dp a u (l ++ m) := by
  induction h with
  | nil h => exact h2.widen h
  | cons h1 hk hr ih1 ih2 =>
    rw [List.cons_append, List.append_assoc]
    exact .cons h1 hk (ih2 h2)

theorem chO_for {s : Nat → Option Ot} {a dp : Nat} : ∀ l, (∀ j ∈ l, ∀ o t, s j = some o → o.to = some t → For dp a t o.tr) → ∀ o t, chO s l = some o → o.to = some t → For dp a t o.tr
  | [], _, o, t, h, ht => by
    rw [chO] at h
    have := Option.some.inj h
    subst this
    cases ht
  | j :: l, hs, o, t, h, ht => by
    rw [chO] at h
    cases hj : s j with
    | none => rw [hj] at h; cases h
    | some p =>
      rw [hj] at h
      simp only at h
      split at h
      · have := Option.some.inj h
        subst this
        exact hs j (List.mem_cons_self ..) _ _ hj ht
      · cases hl : chO s l with
        | none => rw [hl] at h; cases h
        | some q =>
          rw [hl] at h
          have := Option.some.inj h
          subst this
          exact chO_for l (fun x hx => hs x (List.mem_cons_of_mem _ hx)) q t hl ht
theorem sqO_for {s : Nat → Nat → Option Ot} {dp : Nat} (hs : ∀ j a o t, s j a = some o → o.to = some t → For dp a t o.tr) : ∀ l a o t, sqO s l a = some o → o.to = some t → For dp a t o.tr
  | [], a, o, t, h, ht => by
    rw [sqO] at h
    have := Option.some.inj h
    subst this
    have := Option.some.inj ht
    subst this
    exact .nil (Nat.le_refl _)
  | j :: l, a, o, t, h, ht => by
    rw [sqO] at h
    cases hj : s j a with
    | none => rw [hj] at h; cases h
    | some p =>
      rw [hj] at h
      simp only at h
      cases hp : p.to with
      | none =>
        rw [hp] at h
        have := Option.some.inj h
        subst this
        cases ht
      | some u =>
        rw [hp] at h
        simp only at h
        cases hl : sqO s l u with
        | none => rw [hl] at h; cases h
        | some q =>
          rw [hl] at h
          have := Option.some.inj h
          subst this
          have hq : q.to = some t := ht
          show For dp a t (if q.to.isSome then p.tr ++ q.tr else [])
          rw [hq]
          exact (hs j a p u hj hp).app (sqO_for hs l u q t hl hq)
theorem rpO_for {s : Nat → Option Ot} {dp : Nat} (hs : ∀ a o t, s a = some o → o.to = some t → For dp a t o.tr) : ∀ f a o t, rpO s f a = some o → o.to = some t → For dp a t o.tr
  | 0, _, _, _, h, _ => by cases h
  | f + 1, a, o, t, h, ht => by
    rw [rpO] at h
    cases hj : s a with
    | none => rw [hj] at h; cases h
    | some p =>
      rw [hj] at h
      simp only at h
      cases hp : p.to with
      | none =>
        rw [hp] at h
        have := Option.some.inj h
        subst this
        have := Option.some.inj ht
        subst this
        exact .nil (Nat.le_refl _)
      | some u =>
        rw [hp] at h
        simp only at h
        cases hl : rpO s f u with
        | none => rw [hl] at h; cases h
        | some q =>
          rw [hl] at h
          have := Option.some.inj h
          subst this
          exact (hs a p u hj hp).app (rpO_for hs f u q t hl ht)
/-- The tree of what matches is a forest. -/
theorem mtc_for {b : Nat → Nat} {len : Nat} {rs : List Rl} {ns : List Nd} : ∀ f i a dp o t, mtc b len rs ns f i a dp = some o → o.to = some t → For dp a t o.tr
  | 0, _, _, _, _, _, h, _ => by cases h
  | f + 1, i, a, dp, o, t, h, ht => by
    have ih := mtc_for (b := b) (len := len) (rs := rs) (ns := ns) f
    rw [mtc] at h
    split at h
    · have := Option.some.inj h
      subst this
      refine .nil ?_
      have ht' : tmT b len (nth ns i) a = some t := ht
      unfold tmT at ht'
      (repeat' split at ht') <;> first | (cases ht'; omega) | cases ht'
    split at h
    · cases hx : mtc b len rs ns f (isI rs (ruI rs (nth ns i))) a (dp + 1) with
      | none => rw [hx] at h; cases h
      | some p =>
        rw [hx] at h
        have := Option.some.inj h
        subst this
        have hp : p.to = some t := ht
        show For dp a t (match p.to with | some t => ⟨ruI rs (nth ns i), a, t, dp⟩ :: p.tr | none => [])
        rw [hp]
        have := ih _ _ _ p t hx hp
        have := For.cons (r := ruI rs (nth ns i)) (Nat.le_refl a) this (.nil (dp := dp) (Nat.le_refl t))
        rw [List.append_nil] at this
        exact this
    split at h
    · exact chO_for _ (fun j _ o t h1 h2 => ih _ _ _ o t h1 h2) o t h ht
    split at h
    · exact sqO_for (fun j a o t h1 h2 => ih _ _ _ o t h1 h2) _ _ o t h ht
    split at h
    · cases hx : mtc b len rs ns f ((nth ns i).subs.getD 0 0) a dp with
      | none => rw [hx] at h; cases h
      | some p =>
        rw [hx] at h
        have := Option.some.inj h
        subst this
        cases hp : p.to with
        | none =>
          simp [hp] at ht
          subst ht
          simp [hp]
          exact .nil (Nat.le_refl _)
        | some u =>
          simp [hp] at ht ⊢
          subst ht
          exact ih _ _ _ p u hx hp
    split at h
    · exact rpO_for (fun a o t h1 h2 => ih _ _ _ o t h1 h2) _ _ o t h ht
    split at h
    · cases hx : mtc b len rs ns f ((nth ns i).subs.getD 0 0) a dp with
      | none => rw [hx] at h; cases h
      | some p =>
        rw [hx] at h
        simp only at h
        cases hp : p.to with
        | none =>
          rw [hp] at h
          have := Option.some.inj h
          subst this
          cases ht
        | some u =>
          rw [hp] at h
          simp only at h
          cases hl : rpO (fun a => mtc b len rs ns f ((nth ns i).subs.getD 0 0) a dp) f u with
          | none => rw [hl] at h; cases h
          | some q =>
            rw [hl] at h
            have := Option.some.inj h
            subst this
            exact (ih _ _ _ p u hx hp).app (rpO_for (fun a o t h1 h2 => ih _ _ _ o t h1 h2) f u q t hl ht)
    · cases hx : mtc b len rs ns f ((nth ns i).subs.getD 0 0) a dp with
      | none => rw [hx] at h; cases h
      | some p =>
        rw [hx] at h
        have := Option.some.inj h
        subst this
        simp only at ht ⊢
        split at ht
        · cases ht
          exact .nil (Nat.le_refl _)
        · cases ht

/-- What lies asks of a list of nodes, told by places in it. -/
structure LiesAt (dp a t : Nat) (g : Nat → Nod) (i : Nat) : Prop where
  low : dp ≤ (g i).dep
  first : i = 0 → (g i).dep = dp
  next : 0 < i → (g i).dep ≤ (g (i - 1)).dep + 1
  from_ : a ≤ (g i).from_
  to : (g i).to ≤ t
  le : (g i).from_ ≤ (g i).to
  side : ∀ k, k < i → (∀ j, k < j → j < i → (g i).dep ≤ (g j).dep) → (g k).dep = (g i).dep → (g k).to ≤ (g i).from_
  up : ∀ k, k < i → (∀ j, k < j → j < i → (g i).dep ≤ (g j).dep) → (g k).dep < (g i).dep → (g k).from_ ≤ (g i).from_ ∧ (g i).to ≤ (g k).to
def nod0 : Nod := ⟨0, 0, 0, 0⟩
def gN (l : List Nod) (i : Nat) : Nod := l.getD i nod0
theorem gN_cons_succ (x : Nod) (l : List Nod) (i : Nat) : gN (x :: l) (i + 1) = gN l i := by simp [gN]
theorem gN_zero (x : Nod) (l : List Nod) : gN (x :: l) 0 = x := by simp [gN]
theorem gN_left {l m : List Nod} {i : Nat} (h : i < l.length) : gN (l ++ m) i = gN l i := by simp [gN, List.getElem?_append_left h]
theorem gN_right {l m : List Nod} (i : Nat) : gN (l ++ m) (l.length + i) = gN m i := by simp [gN, List.getElem?_append_right]
theorem For.lies {dp a t : Nat} {l : List Nod} (h : For dp a t l) : ∀ i, i < l.length → LiesAt dp a t (gN l) i := by
  induction h with
  | nil h => intro i hi; simp at hi
  | @cons dp a t r f e ks rest h1 hk hr ih1 ih2 =>
    intro i hi
    have hle1 := hk.le
    have hle2 := hr.le
    have e0 : gN (⟨r, f, e, dp⟩ :: (ks ++ rest)) 0 = ⟨r, f, e, dp⟩ := gN_zero _ _
    have e1 : ∀ k, k < ks.length → gN (⟨r, f, e, dp⟩ :: (ks ++ rest)) (k + 1) = gN ks k := fun k hk => by rw [gN_cons_succ, gN_left hk]
    have e2 : ∀ k, gN (⟨r, f, e, dp⟩ :: (ks ++ rest)) (ks.length + k + 1) = gN rest k := fun k => by rw [gN_cons_succ, gN_right]
    generalize gN (⟨r, f, e, dp⟩ :: (ks ++ rest)) = g at *
    simp only [List.length_cons, List.length_append] at hi
    by_cases c0 : i = 0
    · subst c0
      refine ⟨?_, ?_, ?_, ?_, ?_, ?_, ?_, ?_⟩
      · rw [e0]; exact Nat.le_refl _
      · intro _; rw [e0]
      · intro h; omega
      · rw [e0]; exact h1
      · rw [e0]; exact hle2
      · rw [e0]; exact hle1
      · intro k hk; omega
      · intro k hk; omega
    by_cases c1 : i ≤ ks.length
    · obtain ⟨x, rfl⟩ : ∃ x, i = x + 1 := ⟨i - 1, by omega⟩
      have hx : x < ks.length := by omega
      have L := ih1 x hx
      have ex := e1 x hx
      refine ⟨?_, ?_, ?_, ?_, ?_, ?_, ?_, ?_⟩
      · rw [ex]; have := L.low; omega
      · intro h; omega
      · intro _
        rw [ex, Nat.add_sub_cancel]
        by_cases hx0 : x = 0
        · have := L.first hx0
          rw [hx0] at this ⊢
          rw [e0, this]
          exact Nat.le_refl _
        · have := L.next (by omega)
          have e3 := e1 (x - 1) (by omega)
          rw [show x - 1 + 1 = x by omega] at e3
          rw [e3]
          exact this
      · rw [ex]; have := L.from_; omega
      · rw [ex]; have := L.to; omega
      · rw [ex]; exact L.le
      · intro k hk hb he
        rw [ex] at hb he ⊢
        by_cases hk0 : k = 0
        · subst hk0; rw [e0] at he; have := L.low; simp only at he; omega
        · obtain ⟨y, rfl⟩ : ∃ y, k = y + 1 := ⟨k - 1, by omega⟩
          have ey := e1 y (by omega)
          rw [ey] at he ⊢
          refine L.side y (by omega) (fun j hj1 hj2 => ?_) he
          have := hb (j + 1) (by omega) (by omega)
          rw [e1 j (by omega)] at this
          exact this
      · intro k hk hb he
        rw [ex] at hb he ⊢
        by_cases hk0 : k = 0
        · subst hk0; rw [e0]; exact ⟨L.from_, L.to⟩
        · obtain ⟨y, rfl⟩ : ∃ y, k = y + 1 := ⟨k - 1, by omega⟩
          have ey := e1 y (by omega)
          rw [ey] at he ⊢
          refine L.up y (by omega) (fun j hj1 hj2 => ?_) he
          have := hb (j + 1) (by omega) (by omega)
          rw [e1 j (by omega)] at this
          exact this
    · obtain ⟨x, rfl⟩ : ∃ x, i = ks.length + x + 1 := ⟨i - ks.length - 1, by omega⟩
      have hx : x < rest.length := by omega
      have L := ih2 x hx
      have L0 := ih2 0 (by omega)
      have ex := e2 x
      have d0 : (g (ks.length + 0 + 1)).dep = dp := (congrArg Nod.dep (e2 0)).trans (L0.first rfl)
      refine ⟨?_, ?_, ?_, ?_, ?_, ?_, ?_, ?_⟩
      · rw [ex]; exact L.low
      · intro h; omega
      · intro _
        rw [ex, Nat.add_sub_cancel]
        by_cases hx0 : x = 0
        · subst hx0
          have hd := L.first rfl
          by_cases hk0 : ks.length = 0
          · simp only [Nat.add_zero]
            rw [hk0, e0, hd]; exact Nat.le_succ _
          · have e3 := e1 (ks.length - 1) (by omega)
            rw [show ks.length - 1 + 1 = ks.length + 0 by omega] at e3
            rw [e3]
            have := (ih1 (ks.length - 1) (by omega)).low
            omega
        · have := L.next (by omega)
          have e3 := e2 (x - 1)
          rw [show ks.length + (x - 1) + 1 = ks.length + x by omega] at e3
          rw [e3]
          exact this
      · rw [ex]; have := L.from_; omega
      · rw [ex]; exact L.to
      · rw [ex]; exact L.le
      · intro k hk hb he
        have hb0 : k < ks.length + 1 → (g (ks.length + x + 1)).dep = dp := fun hkk => by
          by_cases hx0 : x = 0
          · subst hx0; exact d0
          · have := hb (ks.length + 0 + 1) (by omega) (by omega)
            rw [d0] at this
            have h2 := L.low
            rw [← ex] at h2
            omega
        rw [ex] at hb he hb0 ⊢
        by_cases hk0 : k = 0
        · subst hk0; rw [e0]; exact L.from_
        · by_cases hkk : k < ks.length + 1
          · obtain ⟨y, rfl⟩ : ∃ y, k = y + 1 := ⟨k - 1, by omega⟩
            have ey := e1 y (by omega)
            rw [ey] at he
            have := (ih1 y (by omega)).low
            have := hb0 hkk
            omega
          · obtain ⟨y, rfl⟩ : ∃ y, k = ks.length + y + 1 := ⟨k - ks.length - 1, by omega⟩
            rw [e2 y] at he ⊢
            refine L.side y (by omega) (fun j hj1 hj2 => ?_) he
            have := hb (ks.length + j + 1) (by omega) (by omega)
            rw [e2 j] at this
            exact this
      · intro k hk hb he
        have hb0 : k < ks.length + 1 → (g (ks.length + x + 1)).dep = dp := fun hkk => by
          by_cases hx0 : x = 0
          · subst hx0; exact d0
          · have := hb (ks.length + 0 + 1) (by omega) (by omega)
            rw [d0] at this
            have h2 := L.low
            rw [← ex] at h2
            omega
        rw [ex] at hb he hb0 ⊢
        by_cases hk0 : k = 0
        · subst hk0; rw [e0] at he; have := hb0 (by omega); simp only at he; omega
        · by_cases hkk : k < ks.length + 1
          · obtain ⟨y, rfl⟩ : ∃ y, k = y + 1 := ⟨k - 1, by omega⟩
            have ey := e1 y (by omega)
            rw [ey] at he
            have := (ih1 y (by omega)).low
            have := hb0 hkk
            omega
          · obtain ⟨y, rfl⟩ : ∃ y, k = ks.length + y + 1 := ⟨k - ks.length - 1, by omega⟩
            rw [e2 y] at he ⊢
            refine L.up y (by omega) (fun j hj1 hj2 => ?_) he
            have := hb (ks.length + j + 1) (by omega) (by omega)
            rw [e2 j] at this
            exact this

/-! What matches, told without a bound: rules by which it is made up. -/
section
variable (b : Nat → Nat) (len : Nat) (rs : List Rl) (ns : List Nd)
def Mt (i a dp : Nat) (o : Ot) : Prop := ∃ f, mtc b len rs ns f i a dp = some o
def MtS (l : List Nat) (a dp : Nat) (o : Ot) : Prop := ∃ f, sqO (fun j a => mtc b len rs ns f j a dp) l a = some o
def MtC (l : List Nat) (a dp : Nat) (o : Ot) : Prop := ∃ f, chO (fun j => mtc b len rs ns f j a dp) l = some o
def MtR (j a dp : Nat) (o : Ot) : Prop := ∃ f, rpO (fun a => mtc b len rs ns f j a dp) f a = some o
end
section
variable {b : Nat → Nat} {len : Nat} {rs : List Rl} {ns : List Nd}
theorem MtS.nil {a dp : Nat} : MtS b len rs ns [] a dp ⟨some a, [], 0, []⟩ := ⟨0, rfl⟩
theorem MtS.cons {j a dp t : Nat} {l : List Nat} {o p : Ot} (h : Mt b len rs ns j a dp o) (ht : o.to = some t) (h2 : MtS b len rs ns l t dp p) : MtS b len rs ns (j :: l) a dp ⟨p.to, o.ev ++ p.ev, o.rn + p.rn, if p.to.isSome then o.tr ++ p.tr else []⟩ := by
  obtain ⟨f, hf⟩ := h
  obtain ⟨g, hg⟩ := h2
  refine ⟨f + g, ?_⟩
  have h1 : mtc b len rs ns (f + g) j a dp = some o := mtc_le hf (by omega)
  have h3 := sqO_mono (s' := fun j a => mtc b len rs ns (f + g) j a dp) (fun j a o ho => mtc_le ho (by omega)) l t p hg
  rw [sqO, h1]
  simp only [ht]
  rw [h3]
  rfl
theorem MtS.fail {j a dp : Nat} {l : List Nat} {o : Ot} (h : Mt b len rs ns j a dp o) (ht : o.to = none) : MtS b len rs ns (j :: l) a dp ⟨none, o.ev, o.rn, []⟩ := by
  obtain ⟨f, hf⟩ := h
  refine ⟨f, ?_⟩
  rw [sqO, hf]
  simp only [ht]
theorem MtC.nil {a dp : Nat} : MtC b len rs ns [] a dp ⟨none, [], 0, []⟩ := ⟨0, rfl⟩
theorem MtC.hit {j a dp t : Nat} {l : List Nat} {o : Ot} (h : Mt b len rs ns j a dp o) (ht : o.to = some t) : MtC b len rs ns (j :: l) a dp o := by
  obtain ⟨f, hf⟩ := h
  refine ⟨f, ?_⟩
  rw [chO, hf]
  simp only [ht, Option.isSome_some, if_true]
theorem MtC.miss {j a dp : Nat} {l : List Nat} {o p : Ot} (h : Mt b len rs ns j a dp o) (ht : o.to = none) (h2 : MtC b len rs ns l a dp p) : MtC b len rs ns (j :: l) a dp ⟨p.to, o.ev ++ p.ev, o.rn + p.rn, p.tr⟩ := by
  obtain ⟨f, hf⟩ := h
  obtain ⟨g, hg⟩ := h2
  refine ⟨f + g, ?_⟩
  have h1 : mtc b len rs ns (f + g) j a dp = some o := mtc_le hf (by omega)
  have h3 := chO_mono (s' := fun j => mtc b len rs ns (f + g) j a dp) (fun j o ho => mtc_le ho (by omega)) l p hg
  rw [chO, h1]
  simp only [ht, Option.isSome_none, Bool.false_eq_true, if_false]
  rw [h3]
  rfl
theorem MtR.stop {j a dp : Nat} {o : Ot} (h : Mt b len rs ns j a dp o) (ht : o.to = none) : MtR b len rs ns j a dp ⟨some a, o.ev, o.rn, []⟩ := by
  obtain ⟨f, hf⟩ := h
  refine ⟨f + 1, ?_⟩
  rw [rpO, mtc_le hf (by omega)]
  simp only [ht]
theorem MtR.step {j a dp t : Nat} {o p : Ot} (h : Mt b len rs ns j a dp o) (ht : o.to = some t) (h2 : MtR b len rs ns j t dp p) : MtR b len rs ns j a dp ⟨p.to, o.ev ++ p.ev, o.rn + p.rn, o.tr ++ p.tr⟩ := by
  obtain ⟨f, hf⟩ := h
  obtain ⟨g, hg⟩ := h2
  refine ⟨f + g + 1, ?_⟩
  have h1 : mtc b len rs ns (f + g + 1) j a dp = some o := mtc_le hf (by omega)
  have h3 := rpO_mono (s' := fun a => mtc b len rs ns (f + g + 1) j a dp) (fun a o ho => mtc_le ho (by omega)) g (f + g) t p (by omega) hg
  rw [rpO, h1]
  simp only [ht]
  rw [h3]
  rfl
theorem Mt.term {i a dp : Nat} (hk : (nth ns i).kind ≤ 2) : Mt b len rs ns i a dp (tmO b len (nth ns i) a) := ⟨1, by rw [mtc, if_pos hk]⟩
theorem Mt.name {i a dp t : Nat} {o : Ot} (hk : (nth ns i).kind = 3) (h : Mt b len rs ns (isI rs (ruI rs (nth ns i))) a (dp + 1) o) (ht : o.to = some t) : Mt b len rs ns i a dp ⟨some t, o.ev, o.rn + 1, ⟨ruI rs (nth ns i), a, t, dp⟩ :: o.tr⟩ := by
  obtain ⟨f, hf⟩ := h
  exact ⟨f + 1, by rw [mtc, if_neg (by omega), if_pos hk, hf]; simp only [Option.map_some, ht]⟩
theorem Mt.nameNo {i a dp : Nat} {o : Ot} (hk : (nth ns i).kind = 3) (h : Mt b len rs ns (isI rs (ruI rs (nth ns i))) a (dp + 1) o) (ht : o.to = none) : Mt b len rs ns i a dp ⟨none, o.ev, o.rn + 1, []⟩ := by
  obtain ⟨f, hf⟩ := h
  exact ⟨f + 1, by rw [mtc, if_neg (by omega), if_pos hk, hf]; simp only [Option.map_some, ht]⟩
theorem Mt.cho {i a dp : Nat} {o : Ot} (hk : (nth ns i).kind = 4) (h : MtC b len rs ns (nth ns i).subs a dp o) : Mt b len rs ns i a dp o := by
  obtain ⟨f, hf⟩ := h
  exact ⟨f + 1, by rw [mtc, if_neg (by omega), if_neg (by omega), if_pos hk]; exact hf⟩
theorem Mt.seq {i a dp : Nat} {o : Ot} (hk : (nth ns i).kind = 5) (h : MtS b len rs ns (nth ns i).subs a dp o) : Mt b len rs ns i a dp o := by
  obtain ⟨f, hf⟩ := h
  exact ⟨f + 1, by rw [mtc, if_neg (by omega), if_neg (by omega), if_neg (by omega), if_pos hk]; exact hf⟩
theorem Mt.choL {i a dp : Nat} {o : Ot} {l : List Nat} (hk : (nth ns i).kind = 4) (hs : (nth ns i).subs = l) (h : MtC b len rs ns l a dp o) : Mt b len rs ns i a dp o := Mt.cho hk (by rw [hs]; exact h)
theorem Mt.seqL {i a dp : Nat} {o : Ot} {l : List Nat} (hk : (nth ns i).kind = 5) (hs : (nth ns i).subs = l) (h : MtS b len rs ns l a dp o) : Mt b len rs ns i a dp o := Mt.seq hk (by rw [hs]; exact h)
theorem Mt.star {i a dp : Nat} {o : Ot} (hk : (nth ns i).kind = 7) (h : MtR b len rs ns ((nth ns i).subs.getD 0 0) a dp o) : Mt b len rs ns i a dp o := by
  obtain ⟨f, hf⟩ := h
  exact ⟨f + 1, by rw [mtc, if_neg (by omega), if_neg (by omega), if_neg (by omega), if_neg (by omega), if_neg (by omega), if_pos hk]; exact hf⟩
theorem Mt.plus {i a dp t : Nat} {o p : Ot} (hk : (nth ns i).kind = 8) (h : Mt b len rs ns ((nth ns i).subs.getD 0 0) a dp o) (ht : o.to = some t) (h2 : MtR b len rs ns ((nth ns i).subs.getD 0 0) t dp p) : Mt b len rs ns i a dp ⟨p.to, o.ev ++ p.ev, o.rn + p.rn, o.tr ++ p.tr⟩ := by
  obtain ⟨f, hf⟩ := h
  obtain ⟨g, hg⟩ := h2
  refine ⟨f + g + 1, ?_⟩
  have h1 : mtc b len rs ns (f + g) ((nth ns i).subs.getD 0 0) a dp = some o := mtc_le hf (by omega)
  have h3 := rpO_mono (s' := fun a => mtc b len rs ns (f + g) ((nth ns i).subs.getD 0 0) a dp) (fun a o ho => mtc_le ho (by omega)) g (f + g) t p (by omega) hg
  rw [mtc, if_neg (by omega), if_neg (by omega), if_neg (by omega), if_neg (by omega), if_neg (by omega), if_neg (by omega), if_pos hk, h1]
  simp only [ht]
  rw [h3]
  rfl
theorem Mt.plusNo {i a dp : Nat} {o : Ot} (hk : (nth ns i).kind = 8) (h : Mt b len rs ns ((nth ns i).subs.getD 0 0) a dp o) (ht : o.to = none) : Mt b len rs ns i a dp ⟨none, o.ev, o.rn, []⟩ := by
  obtain ⟨f, hf⟩ := h
  refine ⟨f + 1, ?_⟩
  rw [mtc, if_neg (by omega), if_neg (by omega), if_neg (by omega), if_neg (by omega), if_neg (by omega), if_neg (by omega), if_pos hk, hf]
  simp only [ht]
end

/-! The grammar of sums. -/
def G3n : List Nd := [⟨3, [], [], 0, [112, 114, 111, 100], 6, []⟩, ⟨0, [43], [], 0, [], 0, []⟩, ⟨5, [], [], 0, [], 0, [1]⟩, ⟨0, [45], [], 1, [], 0, []⟩, ⟨5, [], [], 0, [], 0, [3]⟩, ⟨4, [], [], 0, [], 0, [2, 4]⟩,
  ⟨3, [], [], 0, [112, 114, 111, 100], 24, []⟩, ⟨5, [], [], 0, [], 0, [5, 6]⟩, ⟨4, [], [], 0, [], 0, [7]⟩, ⟨7, [], [], 0, [], 0, [8]⟩, ⟨5, [], [], 0, [], 0, [0, 9]⟩, ⟨4, [], [], 0, [], 0, [10]⟩,
  ⟨3, [], [], 0, [97, 116, 111, 109], 38, []⟩, ⟨0, [42], [], 2, [], 0, []⟩, ⟨3, [], [], 0, [97, 116, 111, 109], 48, []⟩, ⟨5, [], [], 0, [], 0, [13, 14]⟩, ⟨4, [], [], 0, [], 0, [15]⟩, ⟨7, [], [], 0, [], 0, [16]⟩, ⟨5, [], [], 0, [], 0, [12, 17]⟩, ⟨4, [], [], 0, [], 0, [18]⟩,
  ⟨3, [], [], 0, [110, 117, 109], 62, []⟩, ⟨5, [], [], 0, [], 0, [20]⟩, ⟨0, [40], [], 3, [], 0, []⟩, ⟨3, [], [], 0, [115, 117, 109], 72, []⟩, ⟨0, [41], [], 4, [], 0, []⟩, ⟨5, [], [], 0, [], 0, [22, 23, 24]⟩, ⟨4, [], [], 0, [], 0, [21, 25]⟩, ⟨1, [], [(48, 57)], 5, [], 0, []⟩, ⟨8, [], [], 0, [], 0, [27]⟩,
  ⟨5, [], [], 0, [], 0, [28]⟩, ⟨4, [], [], 0, [], 0, [29]⟩]
def G3r : List Rl := [⟨[115, 117, 109], 0, 11⟩, ⟨[112, 114, 111, 100], 31, 19⟩, ⟨[97, 116, 111, 109], 55, 26⟩, ⟨[110, 117, 109], 80, 30⟩]

/-- A text of sums: 0 an atom, 1 a product, 2 a sum. -/
inductive Lng : Nat → List UInt8 → Prop
  | num {w : List UInt8} (h : w ≠ []) (hd : ∀ c ∈ w, 48 ≤ c.toNat ∧ c.toNat ≤ 57) : Lng 0 w
  | par {w : List UInt8} (h : Lng 2 w) : Lng 0 (40 :: (w ++ [41]))
  | prod {w : List UInt8} (h : Lng 0 w) : Lng 1 w
  | mul {w v : List UInt8} (h1 : Lng 1 w) (h2 : Lng 0 v) : Lng 1 (w ++ 42 :: v)
  | sum {w : List UInt8} (h : Lng 1 w) : Lng 2 w
  | add {w v : List UInt8} {s : UInt8} (hs : s = 43 ∨ s = 45) (h1 : Lng 2 w) (h2 : Lng 1 v) : Lng 2 (w ++ s :: v)
theorem Lng.times {w v : List UInt8} (h : Lng 2 w) (h2 : Lng 0 v) : Lng 2 (w ++ 42 :: v) := by
  cases h with
  | sum h => exact .sum (.mul h h2)
  | add hs h1 h3 =>
    rw [List.append_assoc, List.cons_append]
    exact .add hs h1 (.mul h3 h2)

section
variable (b : Nat → Nat) (len : Nat)
def Dig (k : Nat) : Prop := k < len ∧ 48 ≤ b k ∧ b k ≤ 57
/-- The runs of digits from a place to another. -/
inductive Cov : Nat → Nat → List (Nat × Nat) → Prop
  | nil {a t : Nat} (h : a ≤ t) (hn : ∀ k, a ≤ k → k < t → ¬ Dig b len k) : Cov a t []
  | cons {a t f e : Nat} {l : List (Nat × Nat)} (h1 : a ≤ f) (hn : ∀ k, a ≤ k → k < f → ¬ Dig b len k) (h2 : f < e) (hd : ∀ k, f ≤ k → k < e → Dig b len k) (he : ¬ Dig b len e) (h : Cov e t l) : Cov a t ((f, e) :: l)
def lvs (l : List Nod) : List (Nat × Nat) := (l.filter (fun n => n.rule == 3)).map (fun n => (n.from_, n.to))
/-- A text stands at a place. -/
structure Occ (w : List UInt8) (a : Nat) : Prop where
  le : a + w.length ≤ len
  at_ : ∀ k (h : k < w.length), b (a + k) = (w[k]).toNat
/-- An expression matches from a place to another, whatever the depth: no more than n runs. -/
def Hit (i a z n : Nat) : Prop := a < z ∧ ∀ dp, ∃ o, Mt b len G3r G3n i a dp o ∧ o.to = some z ∧ o.rn ≤ n ∧ Cov b len a z (lvs o.tr)
def HitR (i a z n : Nat) : Prop := a ≤ z ∧ ∀ dp, ∃ o, MtR b len G3r G3n i a dp o ∧ o.to = some z ∧ o.rn ≤ n ∧ Cov b len a z (lvs o.tr)
def Mis (i a n : Nat) : Prop := ∀ dp, ∃ o, Mt b len G3r G3n i a dp o ∧ o.to = none ∧ o.rn ≤ n
end
section
variable {b : Nat → Nat} {len : Nat}
theorem Cov.le {a t : Nat} {l : List (Nat × Nat)} (h : Cov b len a t l) : a ≤ t := by
  induction h with
  | nil h => exact h
  | cons h1 hn h2 hd he h ih => omega
theorem Cov.app {a t u : Nat} {l m : List (Nat × Nat)} (h : Cov b len a t l) (h2 : Cov b len t u m) : Cov b len a u (l ++ m) := by
  induction h with
  | @nil a t h hn =>
    cases h2 with
    | nil h' hn' => exact .nil (by omega) (fun k h1 h3 => by by_cases hk : k < t; exact hn k h1 hk; exact hn' k (by omega) h3)
    | cons h1 hn' h3 hd he h4 => exact .cons (by omega) (fun k h5 h6 => by by_cases hk : k < t; exact hn k h5 hk; exact hn' k (by omega) h6) h3 hd he h4
  | cons h1 hn h3 hd he h ih => exact .cons h1 hn h3 hd he (ih h2)
theorem lvs_app (l m : List Nod) : lvs (l ++ m) = lvs l ++ lvs m := by simp [lvs]
theorem Occ.app {w v : List UInt8} {a : Nat} (h : Occ b len (w ++ v) a) : Occ b len w a ∧ Occ b len v (a + w.length) := by
  obtain ⟨h1, h2⟩ := h
  rw [List.length_append] at h1
  have h2 : ∀ k (h : k < w.length + v.length), b (a + k) = ((w ++ v)[k]'(by rw [List.length_append]; exact h)).toNat := fun k h => h2 k (by rw [List.length_append]; exact h)
  refine ⟨⟨by omega, fun k hk => ?_⟩, ⟨by omega, fun k hk => ?_⟩⟩
  · rw [h2 k (by omega), List.getElem_append_left hk]
  · rw [Nat.add_assoc, h2 (w.length + k) (by omega), List.getElem_append_right (by omega)]
    simp
theorem Occ.cons {c : UInt8} {v : List UInt8} {a : Nat} (h : Occ b len (c :: v) a) : (a < len ∧ b a = c.toNat) ∧ Occ b len v (a + 1) := by
  obtain ⟨h1, h2⟩ := h
  rw [List.length_cons] at h1
  have h2 : ∀ k (h : k < v.length + 1), b (a + k) = ((c :: v)[k]'(by rw [List.length_cons]; exact h)).toNat := fun k h => h2 k (by rw [List.length_cons]; exact h)
  refine ⟨⟨by omega, h2 0 (by omega)⟩, ⟨by omega, fun k hk => ?_⟩⟩
  have := h2 (k + 1) (by omega)
  rw [show a + 1 + k = a + (k + 1) by omega, this]
  simp

theorem lit1 (a : Nat) (c : UInt8) : litB b len a [c] = decide (a < len ∧ b a = c.toNat) := by
  unfold litB
  rw [Bool.eq_iff_iff]
  simp [List.range_succ]
  omega
/-- A sign that is no digit. -/
theorem sign_hit {i a : Nat} {c : UInt8} (h0 : (nth G3n i).kind = 0) (ht : (nth G3n i).text = [c]) (hc : ¬ (48 ≤ c.toNat ∧ c.toNat ≤ 57)) (h : a < len ∧ b a = c.toNat) : Hit b len i a (a + 1) 0 := by
  refine ⟨by omega, fun dp => ⟨_, Mt.term (by omega), ?_, Nat.le_refl _, .nil (by omega) (fun k h1 h2 hd => ?_)⟩⟩
  · show tmT b len (nth G3n i) a = _
    unfold tmT
    rw [if_pos h0, ht, lit1, if_pos (by simpa using h)]
    rfl
  · obtain rfl : k = a := by omega
    unfold Dig at hd
    omega
theorem sign_mis {i a : Nat} {c : UInt8} (h0 : (nth G3n i).kind = 0) (ht : (nth G3n i).text = [c]) (h : ¬ (a < len ∧ b a = c.toNat)) : Mis b len i a 0 := by
  refine fun dp => ⟨_, Mt.term (by omega), ?_, Nat.le_refl _⟩
  show tmT b len (nth G3n i) a = _
  unfold tmT
  rw [if_pos h0, ht, lit1, if_neg (by simpa using h)]
theorem dig_at (a : Nat) : tmT b len (nth G3n 27) a = if a < len ∧ 48 ≤ b a ∧ b a ≤ 57 then some (a + 1) else none := by
  unfold tmT
  rw [if_neg (by decide)]
  have : (a < len ∧ ((nth G3n 27).kind = 2 ∨ inR (nth G3n 27).rng (b a) = true)) ↔ (a < len ∧ 48 ≤ b a ∧ b a ≤ 57) := by
    rw [show (nth G3n 27).kind = 1 from rfl, show (nth G3n 27).rng = [(48, 57)] from rfl]
    simp [inR]
  by_cases h : a < len ∧ 48 ≤ b a ∧ b a ≤ 57
  · rw [if_pos h, if_pos (this.2 h)]
  · rw [if_neg h, if_neg (fun x => h (this.1 x))]
/-- The digits. -/
theorem digs {z : Nat} (hz : ¬ Dig b len z) (dp : Nat) : ∀ n a, a + n = z → (∀ k, a ≤ k → k < z → Dig b len k) → ∃ o, MtR b len G3r G3n 27 a dp o ∧ o.to = some z ∧ o.rn = 0 ∧ o.tr = []
  | 0, a, ha, _ => by
    obtain rfl : a = z := by omega
    refine ⟨_, MtR.stop (o := tmO b len (nth G3n 27) a) (Mt.term (by decide)) ?_, rfl, rfl, rfl⟩
    exact (dig_at a).trans (if_neg hz)
  | n + 1, a, ha, hd => by
    obtain ⟨o, h1, h2, h3, h4⟩ := digs hz dp n (a + 1) (by omega) (fun k h5 h6 => hd k (by omega) h6)
    have h0 : (tmO b len (nth G3n 27) a).to = some (a + 1) := (dig_at a).trans (if_pos (hd a (by omega) (by omega)))
    refine ⟨_, MtR.step (Mt.term (by decide)) h0 h1, h2, ?_, ?_⟩
    · show 0 + o.rn = 0; omega
    · show [] ++ o.tr = []; rw [h4]; rfl
/-- One after another. -/
theorem Hit.up {i j a z n : Nat} (h : Hit b len j a z n) (hk : ((nth G3n i).kind = 4 ∧ ∃ l, (nth G3n i).subs = j :: l) ∨ ((nth G3n i).kind = 5 ∧ (nth G3n i).subs = [j])) : Hit b len i a z n := by
  refine ⟨h.1, fun dp => ?_⟩
  obtain ⟨o, h1, h2, h3, h4⟩ := h.2 dp
  rcases hk with ⟨hk, l, hs⟩ | ⟨hk, hs⟩
  · exact ⟨o, Mt.choL hk hs (MtC.hit h1 h2), h2, h3, h4⟩
  · refine ⟨_, Mt.seqL hk hs (MtS.cons h1 h2 MtS.nil), rfl, h3, ?_⟩
    simp only [Option.isSome_some, if_true, List.append_nil]
    exact h4
theorem Hit.alt {i j k a z n m : Nat} (h : Mis b len j a m) (h2 : Hit b len k a z n) (hk : (nth G3n i).kind = 4) (hs : (nth G3n i).subs = [j, k]) : Hit b len i a z (m + n) := by
  refine ⟨h2.1, fun dp => ?_⟩
  obtain ⟨o, h1, h3, h4⟩ := h dp
  obtain ⟨p, k1, k2, k3, k4⟩ := h2.2 dp
  exact ⟨_, Mt.choL hk hs (MtC.miss h1 h3 (MtC.hit k1 k2)), k2, by dsimp only; omega, k4⟩
theorem Mis.up {i j a n : Nat} {l : List Nat} (h : Mis b len j a n) (hk : (nth G3n i).kind = 5) (hs : (nth G3n i).subs = j :: l) : Mis b len i a n := by
  intro dp
  obtain ⟨o, h1, h3, h4⟩ := h dp
  exact ⟨_, Mt.seqL hk hs (MtS.fail h1 h3), rfl, h4⟩
theorem Mis.up1 {i j a n : Nat} (h : Mis b len j a n) (hk : (nth G3n i).kind = 4) (hs : (nth G3n i).subs = [j]) : Mis b len i a n := by
  intro dp
  obtain ⟨o, h1, h3, h4⟩ := h dp
  exact ⟨_, Mt.choL hk hs (MtC.miss h1 h3 MtC.nil), rfl, by dsimp only; omega⟩
theorem Mis.up2 {i j k a n m : Nat} (h : Mis b len j a n) (h' : Mis b len k a m) (hk : (nth G3n i).kind = 4) (hs : (nth G3n i).subs = [j, k]) : Mis b len i a (n + m) := by
  intro dp
  obtain ⟨o, h1, h3, h4⟩ := h dp
  obtain ⟨p, k1, k3, k4⟩ := h' dp
  exact ⟨_, Mt.choL hk hs (MtC.miss h1 h3 (MtC.miss k1 k3 MtC.nil)), rfl, by dsimp only; omega⟩
theorem Hit.two {i j k a t z n m : Nat} (h : Hit b len j a t n) (h2 : Hit b len k t z m) (hk : (nth G3n i).kind = 5) (hs : (nth G3n i).subs = [j, k]) : Hit b len i a z (n + m) := by
  refine ⟨by have := h.1; have := h2.1; omega, fun dp => ?_⟩
  obtain ⟨o, h1, h3, h4, h5⟩ := h.2 dp
  obtain ⟨p, k1, k3, k4, k5⟩ := h2.2 dp
  refine ⟨_, Mt.seqL hk hs (MtS.cons h1 h3 (MtS.cons k1 k3 MtS.nil)), rfl, by dsimp only; omega, ?_⟩
  simp only [Option.isSome_some, if_true, List.append_nil]
  rw [lvs_app]
  exact h5.app k5
theorem Hit.three {i j k l a t u z n m q : Nat} (h : Hit b len j a t n) (h2 : Hit b len k t u m) (h' : Hit b len l u z q) (hk : (nth G3n i).kind = 5) (hs : (nth G3n i).subs = [j, k, l]) : Hit b len i a z (n + m + q) := by
  refine ⟨by have := h.1; have := h2.1; have := h'.1; omega, fun dp => ?_⟩
  obtain ⟨o, h1, h3, h4, h5⟩ := h.2 dp
  obtain ⟨p, k1, k3, k4, k5⟩ := h2.2 dp
  obtain ⟨r, l1, l3, l4, l5⟩ := h'.2 dp
  refine ⟨_, Mt.seqL hk hs (MtS.cons h1 h3 (MtS.cons k1 k3 (MtS.cons l1 l3 MtS.nil))), rfl, by dsimp only; omega, ?_⟩
  simp only [Option.isSome_some, if_true, List.append_nil]
  rw [lvs_app, lvs_app]
  exact h5.app (k5.app l5)
/-- One, then a repetition. -/
theorem Hit.rest {i j k q a t z n m : Nat} (h : Hit b len j a t n) (h2 : HitR b len q t z m) (hk : (nth G3n i).kind = 5) (hs : (nth G3n i).subs = [j, k]) (h7 : (nth G3n k).kind = 7) (hq : (nth G3n k).subs.getD 0 0 = q) : Hit b len i a z (n + m) := by
  refine ⟨by have := h.1; have := h2.1; omega, fun dp => ?_⟩
  obtain ⟨o, h1, h3, h4, h5⟩ := h.2 dp
  obtain ⟨p, k1, k3, k4, k5⟩ := h2.2 dp
  have hst : Mt b len G3r G3n k t dp p := Mt.star h7 (by rw [hq]; exact k1)
  refine ⟨_, Mt.seqL hk hs (MtS.cons h1 h3 (MtS.cons hst k3 MtS.nil)), rfl, by dsimp only; omega, ?_⟩
  simp only [Option.isSome_some, if_true, List.append_nil]
  rw [lvs_app]
  exact h5.app k5
theorem HitR.stop {i a n : Nat} (h : Mis b len i a n) : HitR b len i a a n := by
  refine ⟨Nat.le_refl _, fun dp => ?_⟩
  obtain ⟨o, h1, h3, h4⟩ := h dp
  exact ⟨_, MtR.stop h1 h3, rfl, h4, .nil (Nat.le_refl _) (fun k h5 h6 => by omega)⟩
theorem HitR.step {i a t z n m : Nat} (h : Hit b len i a t n) (h2 : HitR b len i t z m) : HitR b len i a z (n + m) := by
  refine ⟨by have := h.1; have := h2.1; omega, fun dp => ?_⟩
  obtain ⟨o, h1, h3, h4, h5⟩ := h.2 dp
  obtain ⟨p, k1, k3, k4, k5⟩ := h2.2 dp
  refine ⟨_, MtR.step h1 h3 k1, k3, by dsimp only; omega, ?_⟩
  show Cov b len a z (lvs (o.tr ++ p.tr))
  rw [lvs_app]
  exact h5.app k5
theorem Hit.step' {i a t z n m : Nat} (h : Hit b len i a t n) (h2 : HitR b len i t z m) : HitR b len i a z (n + m) := HitR.step h h2
theorem Hit.name {i j a z n r : Nat} (h : Hit b len j a z n) (hk : (nth G3n i).kind = 3) (hr : ruI G3r (nth G3n i) = r) (hj : isI G3r r = j) (h3 : r ≠ 3) : Hit b len i a z (n + 1) := by
  refine ⟨h.1, fun dp => ?_⟩
  obtain ⟨o, h1, h2, h4, h5⟩ := h.2 (dp + 1)
  refine ⟨_, Mt.name hk (by rw [hr, hj]; exact h1) h2, rfl, by dsimp only; omega, ?_⟩
  have : lvs (⟨ruI G3r (nth G3n i), a, z, dp⟩ :: o.tr) = lvs o.tr := by
    unfold lvs
    rw [List.filter_cons_of_neg (by simp [hr, h3])]
  dsimp only
  rw [this]
  exact h5
theorem Hit.mono {i a z n m : Nat} (h : Hit b len i a z n) (hn : n ≤ m) : Hit b len i a z m := ⟨h.1, fun dp => by
  obtain ⟨o, h1, h2, h4, h5⟩ := h.2 dp
  exact ⟨o, h1, h2, by omega, h5⟩⟩
/-- A number. -/
theorem num_hit {a z : Nat} (h : a < z) (hd : ∀ k, a ≤ k → k < z → Dig b len k) (hz : ¬ Dig b len z) : Hit b len 20 a z 1 := by
  refine ⟨h, fun dp => ?_⟩
  obtain ⟨o, h1, h2, h3, h4⟩ := digs hz (dp + 1) (z - (a + 1)) (a + 1) (by omega) (fun k h5 h6 => hd k (by omega) h6)
  have h0 : (tmO b len (nth G3n 27) a).to = some (a + 1) := (dig_at a).trans (if_pos (hd a (by omega) (by omega)))
  have hp := Mt.plus (b := b) (len := len) (rs := G3r) (ns := G3n) (i := 28) (dp := dp + 1) (by decide) (Mt.term (i := 27) (a := a) (by decide)) h0 h1
  have hs : MtS b len G3r G3n [28] a (dp + 1) _ := MtS.cons hp h2 MtS.nil
  have h29 : Mt b len G3r G3n 29 a (dp + 1) _ := Mt.seq (by decide) hs
  have h30 : Mt b len G3r G3n 30 a (dp + 1) _ := Mt.cho (by decide) (MtC.hit (l := []) h29 rfl)
  have hn := Mt.name (i := 20) (by decide) (show Mt b len G3r G3n (isI G3r (ruI G3r (nth G3n 20))) a (dp + 1) _ from h30) rfl
  refine ⟨_, hn, rfl, ?_, ?_⟩
  · show 0 + o.rn + 0 + 1 ≤ 1; omega
  · show Cov b len a z (lvs (⟨3, a, z, dp⟩ :: (([] ++ o.tr) ++ [])))
    rw [h4]
    show Cov b len a z [(a, z)]
    exact .cons (Nat.le_refl _) (fun k h5 h6 => by omega) h hd hz (.nil (Nat.le_refl _) (fun k h5 h6 => by omega))
theorem num_mis {a : Nat} (h : ¬ Dig b len a) : Mis b len 20 a 1 := by
  intro dp
  have h0 : (tmO b len (nth G3n 27) a).to = none := (dig_at a).trans (if_neg h)
  have hp := Mt.plusNo (b := b) (len := len) (rs := G3r) (ns := G3n) (i := 28) (dp := dp + 1) (by decide) (Mt.term (i := 27) (a := a) (by decide)) h0
  have h29 : Mt b len G3r G3n 29 a (dp + 1) _ := Mt.seq (by decide) (show MtS b len G3r G3n [28] a (dp + 1) _ from MtS.fail hp rfl)
  have h30 : Mt b len G3r G3n 30 a (dp + 1) _ := Mt.cho (by decide) (show MtC b len G3r G3n [29] a (dp + 1) _ from MtC.miss h29 rfl MtC.nil)
  have hn := Mt.nameNo (i := 20) (by decide) (show Mt b len G3r G3n (isI G3r (ruI G3r (nth G3n 20))) a (dp + 1) _ from h30) rfl
  exact ⟨_, hn, rfl, Nat.le_refl _⟩

/-- What each text comes to. -/
structure P3 (b : Nat → Nat) (len k : Nat) (w : List UInt8) (a : Nat) : Prop where
  atom : k = 0 → ¬ Dig b len (a + w.length) → ∃ n, n + 2 ≤ 4 * w.length ∧ Hit b len 12 a (a + w.length) n ∧ Hit b len 14 a (a + w.length) n
  prod : k = 1 → ¬ Dig b len (a + w.length) → ∀ z n, HitR b len 16 (a + w.length) z n → ∃ m, m + 2 ≤ 4 * w.length + n ∧ Hit b len 19 a z m
  sum : k = 2 → ¬ Dig b len (a + w.length) → ¬ (a + w.length < len ∧ b (a + w.length) = 42) → ∀ z n, HitR b len 8 (a + w.length) z n → ∃ m, m + 1 ≤ 4 * w.length + n ∧ Hit b len 11 a z m
theorem Hit.both {a z n : Nat} (h : Hit b len 26 a z n) : Hit b len 12 a z (n + 1) ∧ Hit b len 14 a z (n + 1) := ⟨h.name (by decide) (r := 2) (by decide) (by decide) (by decide), h.name (by decide) (r := 2) (by decide) (by decide) (by decide)⟩
theorem star_stop {a : Nat} (h : ¬ (a < len ∧ b a = 42)) : HitR b len 16 a a 0 := HitR.stop (((sign_mis (i := 13) (c := 42) (by decide) (by decide) h).up (i := 15) (l := [14]) (by decide) (by decide)).up1 (i := 16) (by decide) (by decide))
theorem plus_stop {a : Nat} (h : ¬ (a < len ∧ b a = 43)) (h' : ¬ (a < len ∧ b a = 45)) : HitR b len 8 a a 0 :=
  HitR.stop (((Mis.up2 ((sign_mis (i := 1) (c := 43) (by decide) (by decide) h).up (i := 2) (l := []) (by decide) (by decide)) ((sign_mis (i := 3) (c := 45) (by decide) (by decide) h').up (i := 4) (l := []) (by decide) (by decide)) (i := 5) (by decide) (by decide)).up (i := 7) (l := [6]) (by decide) (by decide)).up1 (i := 8) (by decide) (by decide))
theorem prod_whole {w : List UInt8} {a : Nat} (h : P3 b len 1 w a) (hd : ¬ Dig b len (a + w.length)) (hm : ¬ (a + w.length < len ∧ b (a + w.length) = 42)) : ∃ n, n + 1 ≤ 4 * w.length ∧ Hit b len 0 a (a + w.length) n ∧ Hit b len 6 a (a + w.length) n := by
  obtain ⟨m, h1, h2⟩ := h.prod rfl hd _ 0 (star_stop hm)
  exact ⟨m + 1, by omega, h2.name (by decide) (r := 1) (by decide) (by decide) (by decide), h2.name (by decide) (r := 1) (by decide) (by decide) (by decide)⟩
theorem lng_hit {k : Nat} {w : List UInt8} (h : Lng k w) : ∀ a, Occ b len w a → P3 b len k w a := by
  induction h with
  | @num w h hd =>
    intro a ho
    refine ⟨fun _ hz => ?_, fun h => by omega, fun h => by omega⟩
    have hl : 0 < w.length := by cases w with | nil => exact absurd rfl h | cons _ _ => simp
    have hle := ho.le
    have hN := num_hit (b := b) (len := len) (a := a) (z := a + w.length) (by omega) (fun k h1 h2 => by
      have := ho.at_ (k - a) (by omega)
      rw [show a + (k - a) = k by omega] at this
      have hc := hd _ (List.getElem_mem (show k - a < w.length by omega))
      exact ⟨by omega, by omega, by omega⟩) hz
    have h26 : Hit b len 26 a (a + w.length) 1 := (hN.up (i := 21) (.inr ⟨by decide, by decide⟩)).up (i := 26) (.inl ⟨by decide, [25], by decide⟩)
    exact ⟨2, by omega, h26.both⟩
  | @par w h ih =>
    intro a ho
    obtain ⟨⟨ha, hb⟩, ho1⟩ := ho.cons
    obtain ⟨ho2, ho3⟩ := ho1.app
    obtain ⟨⟨hz, hzb⟩, -⟩ := ho3.cons
    have hzb' : b (a + 1 + w.length) = 41 := hzb
    refine ⟨fun _ _ => ?_, fun h => by omega, fun h => by omega⟩
    have nd : ¬ Dig b len (a + 1 + w.length) := fun x => by have := x.2; omega
    obtain ⟨m, h1, h2⟩ := (ih (a + 1) ho2).sum rfl nd (fun x => by have := x.2; omega) _ 0 (plus_stop (fun x => by have := x.2; omega) (fun x => by have := x.2; omega))
    have h23 : Hit b len 23 (a + 1) (a + 1 + w.length) (m + 1) := h2.name (by decide) (r := 0) (by decide) (by decide) (by decide)
    have h22 := sign_hit (b := b) (len := len) (i := 22) (a := a) (c := 40) (by decide) (by decide) (by decide) ⟨ha, hb⟩
    have h24 := sign_hit (b := b) (len := len) (i := 24) (a := a + 1 + w.length) (c := 41) (by decide) (by decide) (by decide) ⟨hz, hzb⟩
    have h25 := Hit.three h22 h23 h24 (i := 25) (by decide) (by decide)
    have hb' : b a = 40 := hb
    have h26 := Hit.alt ((num_mis (fun x => by have := x.2; omega)).up (i := 21) (l := []) (by decide) (by decide)) h25 (i := 26) (by decide) (by decide)
    have hlen : (40 :: (w ++ [41]) : List UInt8).length = w.length + 2 := by simp
    rw [hlen, show a + (w.length + 2) = a + 1 + w.length + 1 by omega]
    exact ⟨_, by omega, h26.both⟩
  | @prod w h ih =>
    intro a ho
    refine ⟨fun h => by omega, fun _ hd z n hR => ?_, fun h => by omega⟩
    obtain ⟨m, h1, h2, h3⟩ := (ih a ho).atom rfl hd
    exact ⟨m + n, by omega, ((h2.rest hR (i := 18) (k := 17) (by decide) (by decide) (by decide) (by decide)).up (i := 19) (.inl ⟨by decide, [], by decide⟩))⟩
  | @mul w v h1 h2 ih1 ih2 =>
    intro a ho
    obtain ⟨ho1, ho2⟩ := ho.app
    obtain ⟨⟨ha, hb⟩, ho3⟩ := ho2.cons
    have hb' : b (a + w.length) = 42 := hb
    refine ⟨fun h => by omega, fun _ hd z n hR => ?_, fun h => by omega⟩
    have hlen : (w ++ 42 :: v).length = w.length + 1 + v.length := by simp; omega
    rw [hlen] at hd hR ⊢
    rw [show a + (w.length + 1 + v.length) = a + w.length + 1 + v.length by omega] at hd hR
    obtain ⟨m, k1, k2, k3⟩ := (ih2 _ ho3).atom rfl hd
    have h13 := sign_hit (b := b) (len := len) (i := 13) (a := a + w.length) (c := 42) (by decide) (by decide) (by decide) ⟨ha, hb⟩
    have h16 := (Hit.two h13 k3 (i := 15) (by decide) (by decide)).up (i := 16) (.inl ⟨by decide, [], by decide⟩)
    obtain ⟨q, q1, q2⟩ := (ih1 a ho1).prod rfl (fun x => by have := x.2; omega) z _ (h16.step' hR)
    exact ⟨q, by omega, q2⟩
  | @sum w h ih =>
    intro a ho
    refine ⟨fun h => by omega, fun h => by omega, fun _ hd hm z n hR => ?_⟩
    obtain ⟨m, h1, h2, h3⟩ := prod_whole (ih a ho) hd hm
    exact ⟨m + n, by omega, ((h2.rest hR (i := 10) (k := 9) (by decide) (by decide) (by decide) (by decide)).up (i := 11) (.inl ⟨by decide, [], by decide⟩))⟩
  | @add w v s hs h1 h2 ih1 ih2 =>
    intro a ho
    obtain ⟨ho1, ho2⟩ := ho.app
    obtain ⟨⟨ha, hb⟩, ho3⟩ := ho2.cons
    refine ⟨fun h => by omega, fun h => by omega, fun _ hd hm z n hR => ?_⟩
    have hlen : (w ++ s :: v).length = w.length + 1 + v.length := by simp; omega
    rw [hlen] at hd hR hm ⊢
    rw [show a + (w.length + 1 + v.length) = a + w.length + 1 + v.length by omega] at hd hR hm
    obtain ⟨m, k1, k2, k3⟩ := prod_whole (ih2 _ ho3) hd hm
    have hsb : b (a + w.length) = 43 ∨ b (a + w.length) = 45 := by
      rcases hs with rfl | rfl
      · exact .inl hb
      · exact .inr hb
    have h5 : Hit b len 5 (a + w.length) (a + w.length + 1) 0 := by
      rcases hs with rfl | rfl
      · exact ((sign_hit (i := 1) (c := 43) (by decide) (by decide) (by decide) ⟨ha, hb⟩).up (i := 2) (.inr ⟨by decide, by decide⟩)).up (i := 5) (.inl ⟨by decide, [4], by decide⟩)
      · have hb' : b (a + w.length) = 45 := hb
        exact Hit.alt ((sign_mis (i := 1) (c := 43) (by decide) (by decide) (fun x => by have := x.2; have e : (43 : UInt8).toNat = 43 := rfl; omega)).up (i := 2) (l := []) (by decide) (by decide)) ((sign_hit (i := 3) (c := 45) (by decide) (by decide) (by decide) ⟨ha, hb⟩).up (i := 4) (.inr ⟨by decide, by decide⟩)) (i := 5) (by decide) (by decide)
    have h8 := (Hit.two h5 k3 (i := 7) (by decide) (by decide)).up (i := 8) (.inl ⟨by decide, [], by decide⟩)
    obtain ⟨q, q1, q2⟩ := (ih1 a ho1).sum rfl (fun x => by have := x.2; omega) (fun x => by have := x.2; omega) z _ (h8.step' hR)
    exact ⟨q, by omega, q2⟩
/-- A sum matches whole: its runs, its numbers, its tree. -/
theorem g3_run {w : List UInt8} (h : Lng 2 w) (hl : len = w.length) (ho : Occ b len w 0) : ∃ f o, mtc b len G3r G3n f 11 0 1 = some o ∧ o.to = some len ∧ o.rn + 1 ≤ 4 * len ∧ Cov b len 0 len (lvs o.tr) ∧ For 1 0 len o.tr := by
  have e : 0 + w.length = len := by omega
  have hp := (lng_hit h 0 ho).sum rfl
  rw [e] at hp
  obtain ⟨m, h1, h2⟩ := hp (fun x => by have := x.1; omega) (fun x => by have := x.1; omega) len 0 (plus_stop (fun x => by have := x.1; omega) (fun x => by have := x.1; omega))
  obtain ⟨o, ⟨f, hf⟩, k2, k3, k4⟩ := h2.2 1
  exact ⟨f, o, hf, k2, by omega, k4, mtc_for _ _ _ _ _ _ hf k2⟩
end

/-! The texts that sum makes. -/
def dgt (v : Nat) : UInt8 := UInt8.ofNat (48 + v / 8 % 10)
theorem dgt_ok (v : Nat) : 48 ≤ (dgt v).toNat ∧ (dgt v).toNat ≤ 57 := by
  unfold dgt
  have h : (UInt8.ofNat (48 + v / 8 % 10)).toNat = 48 + v / 8 % 10 := by
    rw [UInt8.toNat_ofNat']
    omega
  omega
def sumS (s : List UInt8) (op v : Nat) : List UInt8 × Nat :=
  if v % 8 ≤ 1 then (s ++ [43, dgt v], op)
  else if v % 8 = 2 then (s ++ [45, dgt v], op)
  else if v % 8 ≤ 4 then (s ++ [42, dgt v], op)
  else if v % 8 = 5 then (s ++ [43, 40, dgt v, 42, dgt v, 41], op + 1)
  else if op < 4 then (40 :: (s ++ [41]), op + 1)
  else (s ++ [43, dgt v, dgt v], op)
def sumL : List Nat → List UInt8 → Nat → List UInt8
  | [], s, _ => s
  | v :: r, s, op => if s.length < 48 then sumL r (sumS s op v).1 (sumS s op v).2 else s
theorem sumS_len (s : List UInt8) (op v : Nat) : s.length ≤ (sumS s op v).1.length ∧ (sumS s op v).1.length ≤ s.length + 6 := by
  unfold sumS
  (repeat' split) <;> simp <;> omega
theorem Lng.dig (v : Nat) : Lng 0 [dgt v] := .num (by simp) (fun c hc => by simp at hc; subst hc; exact dgt_ok v)
theorem Lng.dig2 (v : Nat) : Lng 0 [dgt v, dgt v] := .num (by simp) (fun c hc => by simp at hc; subst hc; exact dgt_ok v)
theorem sumS_lng {s : List UInt8} (h : Lng 2 s) (op v : Nat) : Lng 2 (sumS s op v).1 := by
  unfold sumS
  split
  · exact .add (.inl rfl) h (.prod (.dig v))
  split
  · exact .add (.inr rfl) h (.prod (.dig v))
  split
  · exact h.times (.dig v)
  split
  · exact .add (.inl rfl) h (.prod (.par (.sum (.mul (.prod (.dig v)) (.dig v)))))
  split
  · exact .sum (.prod (.par h))
  · exact .add (.inl rfl) h (.prod (.dig2 v))
theorem sumL_ok : ∀ r s op, Lng 2 s → s.length ≤ 53 → Lng 2 (sumL r s op) ∧ (sumL r s op).length ≤ 53
  | [], s, _, h, hl => ⟨h, hl⟩
  | v :: r, s, op, h, hl => by
    rw [sumL]
    split
    · next hs => exact sumL_ok r _ _ (sumS_lng h op v) (by have := sumS_len s op v; omega)
    · exact ⟨h, hl⟩
theorem sumL_one (r : List Nat) : Lng 2 (sumL r [49] 0) ∧ (sumL r [49] 0).length ≤ 53 := sumL_ok r _ _ (.sum (.prod (.num (by simp) (fun c hc => by simp at hc; subst hc; decide)))) (by simp)

/-! What the other texts are. -/
def sumsB : ByteArray := ⟨#[115, 117, 109, 32, 61, 32, 112, 114, 111, 100, 32, 40, 40, 39, 43, 39, 32, 47, 32, 39, 45, 39, 41, 32, 112, 114, 111, 100, 41, 42, 10, 112, 114, 111, 100, 32, 61, 32, 97, 116, 111, 109, 32, 40, 39, 42, 39, 32, 97, 116, 111, 109, 41, 42, 10, 97, 116, 111, 109, 32, 61, 32, 110, 117, 109, 32, 47, 32, 39, 40, 39, 32, 115, 117, 109, 32, 39, 41, 39, 10, 110, 117, 109, 32, 61, 32, 91, 48, 45, 57, 93, 43, 10]⟩
theorem sumsB_read : (read sumsB).1.ns = G3n ∧ (read sumsB).2 = G3r := ⟨by kernel_rfl, by kernel_rfl⟩
theorem sumsB_chk : refChk sumsB = (0, 0) := by decide +kernel
def spareB : ByteArray := ⟨#[115, 32, 61, 32, 116, 32, 39, 120, 39, 32, 47, 32, 116, 32, 39, 121, 39, 10, 116, 32, 61, 32, 39, 97, 39, 43, 10]⟩
def G4n : List Nd := [⟨3, [], [], 0, [116], 4, []⟩, ⟨0, [120], [], 0, [], 0, []⟩, ⟨5, [], [], 0, [], 0, [0, 1]⟩, ⟨3, [], [], 0, [116], 12, []⟩, ⟨0, [121], [], 1, [], 0, []⟩, ⟨5, [], [], 0, [], 0, [3, 4]⟩, ⟨4, [], [], 0, [], 0, [2, 5]⟩, ⟨0, [97], [], 2, [], 0, []⟩, ⟨8, [], [], 0, [], 0, [7]⟩, ⟨5, [], [], 0, [], 0, [8]⟩, ⟨4, [], [], 0, [], 0, [9]⟩]
def G4r : List Rl := [⟨[115], 0, 6⟩, ⟨[116], 18, 10⟩]
theorem spareB_read : (read spareB).1.ns = G4n ∧ (read spareB).2 = G4r := ⟨by kernel_rfl, by kernel_rfl⟩
theorem spareB_chk : refChk spareB = (0, 0) := by decide +kernel
def notB : ByteArray := ⟨#[115, 32, 61, 32, 33, 39, 97, 39, 32, 46, 32, 47, 32, 39, 97, 98, 39, 10]⟩
def G5n : List Nd := [⟨0, [97], [], 0, [], 0, []⟩, ⟨10, [], [], 0, [], 0, [0]⟩, ⟨2, [], [], 1, [], 0, []⟩, ⟨5, [], [], 0, [], 0, [1, 2]⟩, ⟨0, [97, 98], [], 2, [], 0, []⟩, ⟨5, [], [], 0, [], 0, [4]⟩, ⟨4, [], [], 0, [], 0, [3, 5]⟩]
def G5r : List Rl := [⟨[115], 0, 6⟩]
theorem notB_read : (read notB).1.ns = G5n ∧ (read notB).2 = G5r := ⟨by kernel_rfl, by kernel_rfl⟩
theorem notB_chk : refChk notB = (0, 0) := by decide +kernel
/-! What comes of the inputs that the document tells of: the first rule at the first place. -/
def byL (l : List Nat) (k : Nat) : Nat := l.getD k 0
theorem spare_run : mtc (byL [97, 97, 121]) 3 G4r G4n 9 6 0 1 = some ⟨some 3, [(2, 2), (2, 0), (2, 2)], 2, [⟨1, 0, 2, 1⟩]⟩ := by kernel_rfl
theorem known_aabb : mtc (byL [97, 97, 98, 98]) 4 G1r G1n 12 6 0 1 = some ⟨some 4, [(2, 0)], 2, [⟨0, 1, 3, 1⟩, ⟨0, 2, 2, 2⟩]⟩ := by kernel_rfl
theorem known_aab : mtc (byL [97, 97, 98]) 3 G1r G1n 12 6 0 1 = some ⟨some 0, [(2, 0), (3, 1)], 2, []⟩ := by kernel_rfl
theorem known_ab : mtc (byL [97, 98]) 2 G5r G5n 9 6 0 1 = some ⟨some 2, [], 0, []⟩ := by kernel_rfl
theorem known_b : mtc (byL [98]) 1 G5r G5n 9 6 0 1 = some ⟨some 1, [(0, 0)], 0, []⟩ := by kernel_rfl
def ex0B : ByteArray := ⟨#[97, 32, 61, 32, 39, 120, 39]⟩
def ex1B : ByteArray := ⟨#[97, 32, 61, 32, 98, 10]⟩
def ex2B : ByteArray := ⟨#[97, 32, 61, 32, 97, 32, 39, 120, 39, 10]⟩
def ex3B : ByteArray := ⟨#[97, 32, 61, 32, 39, 120, 39, 63, 42, 10]⟩
def ex4B : ByteArray := ⟨#[97, 32, 61, 32, 40, 39, 120, 39, 63, 41, 42, 10]⟩
def ex5B : ByteArray := ⟨#[97, 32, 61, 32, 39, 120, 39, 10, 97, 32, 61, 32, 39, 121, 39, 10]⟩
def ex6B : ByteArray := ⟨#[97, 32, 61, 32, 91, 98, 45, 97, 93, 10]⟩
def ex7B : ByteArray := ⟨#[97, 32, 61, 32, 39, 120, 39, 10]⟩
theorem exs_chk : [ex0B, ex1B, ex2B, ex3B, ex4B, ex5B, ex6B, ex7B].map refChk = [(2, 7), (3, 4), (4, 0), (2, 8), (4, 0), (3, 8), (2, 7), (0, 0)] := by decide +kernel

end Go.Proofs.YtagklnaaoclmhaaGreatDoor

namespace Go.Proofs.YtagklnaaoclmhaaGreatDoor
open Go.RowKit

/-! The same run deeper: the tree's depths are shifted, nothing else is. -/
def shN (k : Nat) (n : Nod) : Nod := ⟨n.rule, n.from_, n.to, n.dep + k⟩
def shO (k : Nat) (o : Ot) : Ot := ⟨o.to, o.ev, o.rn, o.tr.map (shN k)⟩
theorem chO_sh {s s' : Nat → Option Ot} {k : Nat} (h : ∀ j, s' j = (s j).map (shO k)) : ∀ l, chO s' l = (chO s l).map (shO k)
  | [] => rfl
  | j :: l => by
    rw [chO, chO, h j]
    cases hj : s j with
    | none => rfl
    | some o =>
      simp only [Option.map_some]
      rw [show (shO k o).to = o.to from rfl]
      split
      · rfl
      · rw [chO_sh h l]
        cases chO s l with
        | none => rfl
        | some p => rfl
theorem sqO_sh {s s' : Nat → Nat → Option Ot} {k : Nat} (h : ∀ j a, s' j a = (s j a).map (shO k)) : ∀ l a, sqO s' l a = (sqO s l a).map (shO k)
  | [], _ => rfl
  | j :: l, a => by
    rw [sqO, sqO, h j a]
    cases hj : s j a with
    | none => rfl
    | some o =>
      simp only [Option.map_some]
      rw [show (shO k o).to = o.to from rfl]
      cases ho : o.to with
      | none => rfl
      | some t =>
        simp only
        rw [sqO_sh h l t]
        cases sqO s l t with
        | none => rfl
        | some p =>
          simp only [Option.map_some, shO]
          cases p.to with
          | none => rfl
          | some u => simp
theorem rpO_sh {s s' : Nat → Option Ot} {k : Nat} (h : ∀ a, s' a = (s a).map (shO k)) : ∀ f a, rpO s' f a = (rpO s f a).map (shO k)
  | 0, _ => rfl
  | f + 1, a => by
    rw [rpO, rpO, h a]
    cases hj : s a with
    | none => rfl
    | some o =>
      simp only [Option.map_some]
      rw [show (shO k o).to = o.to from rfl]
      cases ho : o.to with
      | none => rfl
      | some t =>
        simp only
        rw [rpO_sh h f t]
        cases rpO s f t with
        | none => rfl
        | some p => simp [shO]
theorem mtc_sh {b : Nat → Nat} {len : Nat} {rs : List Rl} {ns : List Nd} (k : Nat) : ∀ f i a dp, mtc b len rs ns f i a (dp + k) = (mtc b len rs ns f i a dp).map (shO k)
  | 0, _, _, _ => rfl
  | f + 1, i, a, dp => by
    have ih := mtc_sh (b := b) (len := len) (rs := rs) (ns := ns) k f
    rw [mtc, mtc]
    split
    · rfl
    split
    · rw [show dp + k + 1 = dp + 1 + k by omega, ih]
      cases mtc b len rs ns f (isI rs (ruI rs (nth ns i))) a (dp + 1) with
      | none => rfl
      | some o =>
        simp only [Option.map_some, shO]
        cases o.to with
        | none => rfl
        | some t => rfl
    split
    · exact chO_sh (fun j => ih j a dp) _
    split
    · exact sqO_sh (fun j a => ih j a dp) _ _
    split
    · rw [ih]
      cases mtc b len rs ns f ((nth ns i).subs.getD 0 0) a dp with
      | none => rfl
      | some o =>
        obtain ⟨to, ev, rn, tr⟩ := o
        cases to with
        | none => rfl
        | some t => rfl
    split
    · exact rpO_sh (fun a => ih _ a dp) _ _
    split
    · rw [ih]
      cases mtc b len rs ns f ((nth ns i).subs.getD 0 0) a dp with
      | none => rfl
      | some o =>
        simp only [Option.map_some]
        rw [show (shO k o).to = o.to from rfl]
        cases ho : o.to with
        | none => rfl
        | some t =>
          simp only
          rw [rpO_sh (fun a => ih _ a dp) f t]
          cases rpO (fun a => mtc b len rs ns f ((nth ns i).subs.getD 0 0) a dp) f t with
          | none => rfl
          | some p => simp [shO]
    · rw [ih]
      cases mtc b len rs ns f ((nth ns i).subs.getD 0 0) a dp with
      | none => rfl
      | some o => rfl

/-! The farthest failure: its place and a bit for each terminal that failed there. -/
def fAdd (s : Int × Nat) (e : Nat × Nat) : Int × Nat :=
  if s.1 < (e.1 : Int) then ((e.1 : Int), 2 ^ e.2) else if s.1 = (e.1 : Int) then (s.1, s.2 ||| 2 ^ e.2) else s
def fMer (s t : Int × Nat) : Int × Nat :=
  if s.1 < t.1 then t else if s.1 = t.1 then (s.1, s.2 ||| t.2) else s
def fNo : Int × Nat := (-1, 0)
def fAll (ev : List (Nat × Nat)) : Int × Nat := ev.foldl fAdd fNo
theorem fAdd_mer (s : Int × Nat) (e : Nat × Nat) : fAdd s e = fMer s ((e.1 : Int), 2 ^ e.2) := rfl
theorem fMer_assoc (s t u : Int × Nat) : fMer (fMer s t) u = fMer s (fMer t u) := by
  obtain ⟨s1, s2⟩ := s
  obtain ⟨t1, t2⟩ := t
  obtain ⟨u1, u2⟩ := u
  unfold fMer
  dsimp only
  (repeat' split) <;> first | rfl | omega | (simp only at *; first | omega | (congr 1; exact Nat.or_assoc ..) | (subst_vars; first | rfl | omega | simp_all [Nat.or_assoc]))
theorem fMer_no {s : Int × Nat} (h : -1 ≤ s.1) : fMer s fNo = s := by
  unfold fMer fNo
  dsimp only
  (repeat' split) <;> first | rfl | omega | simp
theorem fold_mer : ∀ (ev : List (Nat × Nat)) (s : Int × Nat), -1 ≤ s.1 → ev.foldl fAdd s = fMer s (fAll ev)
  | [], s, h => (fMer_no h).symm
  | e :: ev, s, h => by
    have h1 : -1 ≤ (fAdd s e).1 := by unfold fAdd; (repeat' split) <;> first | omega | (dsimp only; omega)
    have h2 : -1 ≤ (fAdd fNo e).1 := by unfold fAdd fNo; (repeat' split) <;> (dsimp only at *; omega)
    unfold fAll
    rw [List.foldl_cons, List.foldl_cons, fold_mer ev _ h1, fold_mer ev _ h2, fAdd_mer, fAdd_mer, ← fMer_assoc, ← fMer_assoc]
    rw [fMer_no h]
theorem fAll_app (l m : List (Nat × Nat)) : fAll (l ++ m) = fMer (fAll l) (fAll m) := by
  have h : ∀ (ev : List (Nat × Nat)) (s : Int × Nat), -1 ≤ s.1 → -1 ≤ (ev.foldl fAdd s).1 := by
    intro ev
    induction ev with
    | nil => intro s h; exact h
    | cons e ev ih =>
      intro s h
      rw [List.foldl_cons]
      exact ih _ (by unfold fAdd; (repeat' split) <;> first | omega | (dsimp only; omega))
  show (l ++ m).foldl fAdd fNo = _
  rw [List.foldl_append]
  exact fold_mer m _ (h l fNo (by decide))
theorem fAll_far : ∀ ev, (fAll ev).1 = farI ev
  | [] => rfl
  | e :: ev => by
    have h := fAll_app [e] ev
    have h1 := fAll_far ev
    rw [List.singleton_append] at h
    have h0 : fAll [e] = ((e.1 : Int), 2 ^ e.2) := by
      unfold fAll fNo
      rw [List.foldl_cons, List.foldl_nil]
      unfold fAdd
      rw [if_pos (by dsimp only; omega)]
    rw [h, h0, farI, ← h1]
    unfold fMer
    (repeat' split) <;> first | rfl | omega | (dsimp only at *; omega)
end Go.Proofs.YtagklnaaoclmhaaGreatDoor
