import Derived.Test.YtagklnaaoclmhaaRefQ
set_option linter.unusedSimpArgs false
set_option linter.unusedVariables false
namespace Go.Proofs.Ytagklnaaoclmhaa
open Go.RowKit

theorem ownsRow_le {w : World} {base e size n : Nat} {v : Value} {xs : List Value} (h : w.ownsRow base e size v n xs) : n ≤ 9223372036854775807 := by
  rcases h.2 with ⟨_, h2⟩ | ⟨g, cap, cur, hv, _, _, h1, h2, _⟩
  · omega
  · unfold maxLen at h2; omega
theorem subs_low {n : Nat} {l : List Nat} (h : ∀ j ∈ l, j < n) : ∀ q, q < l.length → l.getD q 0 < n := fun q hq => h _ (by simp [List.getD, List.getElem?_eq_getElem hq])
theorem any_take_getD {l : List Nat} (p : Nat → Bool) {q : Nat} (h : q < l.length) : (l.take (q + 1)).any p = ((l.take q).any p || p (l.getD q 0)) := by
  rw [List.take_succ_eq_append_getElem h, List.any_append]
  simp [List.getD, List.getElem?_eq_getElem h]
theorem all_take_getD {l : List Nat} (p : Nat → Bool) {q : Nat} (h : q < l.length) : (l.take (q + 1)).all p = ((l.take q).all p && p (l.getD q 0)) := by
  rw [List.take_succ_eq_append_getElem h, List.all_append]
  simp [List.getD, List.getElem?_eq_getElem h]
theorem getD_get {L : List Bool} {i : Nat} (h : i < L.length) : L.getD i false = L[i] := by simp [List.getD, List.getElem?_eq_getElem h]
theorem getD_set_same {L : List Bool} {k : Nat} {v : Bool} (h : k < L.length) : (L.set k v).getD k false = v := by simp [List.getD, h]
theorem getD_set_ne {L : List Bool} {k j : Nat} {v : Bool} (h : j ≠ k) : (L.set k v).getD j false = L.getD j false := by simp [List.getD, List.getElem?_set, Ne.symm h]
theorem set_same {L : List Bool} {k : Nat} : L.set k (L.getD k false) = L := by
  by_cases h : k < L.length
  · simp [List.getD, List.getElem?_eq_getElem h]
  · exact List.set_eq_of_length_le (by omega)

/-- begins: over the parts. -/
def bgL (step : Nat → Bool → List Bool → Bool × List Bool) (E : List Bool) (kind : Nat) : List Nat → Bool → Bool → List Bool → Bool × List Bool
  | [], bad, ahead, W => (bad, W)
  | j :: r, bad, ahead, W => bgL step E kind r (bad || (step j ahead W).1) (if kind = 5 ∧ E.getD j false = false then false else ahead) (step j ahead W).2
def bgF (rs : List Rl) (ns : List Nd) (E : List Bool) : Nat → Nat → Bool → List Bool → Bool × List Bool
  | 0, i, ahead, W => (false, W)
  | f + 1, i, ahead, W =>
    bgL (bgF rs ns E f) E (nth ns i).kind (nth ns i).subs (decide ((nth ns i).kind = 7 ∨ (nth ns i).kind = 8) && E.getD ((nth ns i).subs.getD 0 0) false) ahead
      (if (nth ns i).kind = 3 ∧ ahead = true then W.set ((fndI rs (nth ns i).name).getD 0) true else W)

theorem bgL_len {step : Nat → Bool → List Bool → Bool × List Bool} {E : List Bool} {kind n : Nat} (hs : ∀ j a W, W.length = n → (step j a W).2.length = n) : ∀ l bad a W, W.length = n → (bgL step E kind l bad a W).2.length = n
  | [], bad, a, W, h => h
  | j :: r, bad, a, W, h => bgL_len hs r _ _ _ (hs j a W h)
theorem bgF_len {rs : List Rl} {ns : List Nd} {E : List Bool} {n : Nat} : ∀ f i a W, W.length = n → (bgF rs ns E f i a W).2.length = n
  | 0, i, a, W, h => h
  | f + 1, i, a, W, h => bgL_len (fun j a W h => bgF_len f j a W h) _ _ _ _ (by split <;> simp [h])

/-- What a rule begins with, and whether a repetition in it could go on for ever. -/
def bgX (rs : List Rl) (ns : List Nd) (t : Nat) : Bool × List Bool := bgF rs ns (empty rs ns) ns.length ((rs.map Rl.is).getD t 0) true (List.replicate rs.length false)
def leads0 (rs : List Rl) (ns : List Nd) (i : Nat) : List (List Bool) := (List.range i).map (fun t => (bgX rs ns t).2)
def bads (rs : List Rl) (ns : List Nd) (i : Nat) : List Bool := (List.range rs.length).map (fun t => decide (t < i) && (bgX rs ns t).1)
def at2 (M : List (List Bool)) (i j : Nat) : Bool := (M.getD i []).getD j false
def upd (M : List (List Bool)) (k i j : Nat) : List (List Bool) := M.set i ((M.getD i []).set j (at2 M i j || (at2 M i k && at2 M k j)))
def wj (M : List (List Bool)) (k i : Nat) : Nat → List (List Bool)
  | 0 => M
  | j + 1 => upd (wj M k i j) k i j
def wi (n : Nat) (M : List (List Bool)) (k : Nat) : Nat → List (List Bool)
  | 0 => M
  | i + 1 => wj (wi n M k i) k i n
def wk (n : Nat) (M : List (List Bool)) : Nat → List (List Bool)
  | 0 => M
  | k + 1 => wi n (wk n M k) k n
def leads (rs : List Rl) (ns : List Nd) : List (List Bool) := wk rs.length (leads0 rs ns rs.length) rs.length
def endI (rs : List Rl) (ns : List Nd) : Option Nat := (List.range rs.length).find? (fun i => at2 (leads rs ns) i i || (bads rs ns rs.length).getD i false)
/-- endless. -/
def endless (rs : List Rl) (ns : List Nd) : Int := match endI rs ns with | some i => ((rs.map Rl.at_).getD i 0 : Nat) | none => -1

theorem getD_app_l {α : Type} {l m : List α} {i : Nat} {d : α} (h : i < l.length) : (l ++ m).getD i d = l.getD i d := by simp [List.getD, List.getElem?_append_left h]
theorem getD_app_r {α : Type} {l m : List α} {i : Nat} {d : α} (h : l.length ≤ i) : (l ++ m).getD i d = m.getD (i - l.length) d := by simp [List.getD, List.getElem?_append_right h]

theorem lo_nonneg (a : Int) (x : Nat) : 0 ≤ lo a x := by unfold lo; split <;> omega
theorem misN_neg {rs : List Rl} {ns : List Nd} : ∀ k, misN rs ns k < 0 → misR rs rs.length < 0 ∧ ∀ t, t < k → (ns.map Nd.kind).getD t 0 = 3 → 0 ≤ fnd rs ((ns.map Nd.name).getD t [])
  | 0, h => ⟨h, fun t ht => absurd ht (by omega)⟩
  | k + 1, h => by
    rw [misN] at h
    split at h
    · have := lo_nonneg (misN rs ns k) ((ns.map Nd.at_).getD k 0); omega
    · next hc =>
      obtain ⟨h1, h2⟩ := misN_neg k h
      refine ⟨h1, fun t ht h3 => ?_⟩
      rcases Nat.lt_or_eq_of_le (Nat.lt_succ_iff.1 ht) with h4 | h4
      · exact h2 t h4 h3
      · subst h4
        rcases Int.lt_or_le (fnd rs ((ns.map Nd.name).getD t [])) 0 with h5 | h5
        · exact absurd ⟨h3, h5⟩ hc
        · exact h5
theorem fnd_some {rs : List Rl} {nm : List UInt8} (h : 0 ≤ fnd rs nm) : (fndI rs nm).isSome = true := by
  unfold fnd at h
  cases hf : fndI rs nm with
  | none => rw [hf] at h; simp at h
  | some i => rfl
theorem mis_named {rs : List Rl} {ns : List Nd} (h : mis rs ns < 0) : ∀ N ∈ ns, N.kind = 3 → (fndI rs N.name).isSome = true := by
  intro N hN hk
  obtain ⟨t, ht, rfl⟩ := List.getElem_of_mem hN
  have := (misN_neg ns.length h).2 t ht (by rw [map_getD _ _ _ _ ht]; exact hk)
  rw [map_getD _ _ _ _ ht] at this
  exact fnd_some this

theorem readF_len {s : ByteArray} (hs : s.size ≤ 400) : ∀ f X rs, X.ns.length ≤ 4000 → (X.sc.bad < 0 → Ok s X ∧ X.sc.op = 0) → (readF s f X rs).1.ns.length ≤ 4000
  | 0, X, rs, h, _ => h
  | f + 1, X, rs, h, ho => by
    rw [readF]
    split
    · next hc =>
      split
      · exact h
      · obtain ⟨k1, k2, k3, k4, k5⟩ := rule_ok (ho hc.1).1 (ho hc.1).2 hc.1
        exact readF_len hs f _ _ (by have := k3.len; omega) (fun _ => ⟨k3, k2⟩)
    · exact h
theorem read_len {s : ByteArray} (hs : s.size ≤ 400) : (read s).1.ns.length ≤ 4000 :=
  readF_len hs 10 _ _ (by simp) (fun _ => ⟨⟨⟨fun _ => Nat.zero_le _, Nat.zero_le _⟩, by simp, by simp [Pt, rest]; omega, by simp, hs⟩, rfl⟩)

/-- The ref's Check: the error and the place. -/
def refChk (s : ByteArray) : Int × Int :=
  if 400 < s.size then (1, 0)
  else if 0 ≤ (read s).1.sc.bad then (2, (read s).1.sc.bad)
  else if 0 ≤ mis (read s).2 (read s).1.ns then (3, mis (read s).2 (read s).1.ns)
  else if 0 ≤ endless (read s).2 (read s).1.ns then (4, endless (read s).2 (read s).1.ns)
  else (0, 0)

end Go.Proofs.Ytagklnaaoclmhaa
