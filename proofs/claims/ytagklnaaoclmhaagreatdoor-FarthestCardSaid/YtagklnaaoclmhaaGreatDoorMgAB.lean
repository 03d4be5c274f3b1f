import Derived.Test.YtagklnaaoclmhaaGreatDoorMgAA
set_option linter.unusedSimpArgs false
set_option linter.unusedVariables false
namespace Go.Proofs.YtagklnaaoclmhaaGreatDoor
open Go.RowKit

/-- Whether a node is empty: q: what of the rule that it names, f: of its parts. -/
def eV (N : Nd) (q : Bool) (f : Nat → Bool) : Bool :=
  if N.kind = 0 then N.text.isEmpty
  else if N.kind = 3 then q
  else if N.kind = 6 ∨ N.kind = 7 ∨ N.kind = 9 ∨ N.kind = 10 then true
  else if N.kind = 4 ∨ N.kind = 8 then N.subs.any f
  else if N.kind = 5 then N.subs.all f
  else false
def ruI (rs : List Rl) (N : Nd) : Nat := (fndI rs N.name).getD 0
def isI (rs : List Rl) (i : Nat) : Nat := (rs.map Rl.is).getD i 0

theorem eV_mono {N : Nd} {q q' : Bool} {f f' : Nat → Bool} (hq : q = true → q' = true) (hf : ∀ j ∈ N.subs, f j = true → f' j = true) (h : eV N q f = true) : eV N q' f' = true := by
  unfold eV at h ⊢
  split
  · next h0 => rw [if_pos h0] at h; exact h
  next h0 =>
  rw [if_neg h0] at h
  split
  · next h0 => rw [if_pos h0] at h; exact hq h
  next h0 =>
  rw [if_neg h0] at h
  split
  · rfl
  next h0 =>
  rw [if_neg h0] at h
  split
  · next h0 =>
    rw [if_pos h0] at h
    obtain ⟨j, hj, h1⟩ := List.any_eq_true.1 h
    exact List.any_eq_true.2 ⟨j, hj, hf j hj h1⟩
  next h0 =>
  rw [if_neg h0] at h
  split
  · next h0 =>
    rw [if_pos h0] at h
    exact List.all_eq_true.2 fun j hj => hf j hj (List.all_eq_true.1 h j hj)
  next h0 =>
  rw [if_neg h0] at h
  exact h
theorem eV_congr {N : Nd} {q q' : Bool} {f f' : Nat → Bool} (hq : N.kind = 3 → q = q') (hf : ∀ j ∈ N.subs, f j = f' j) : eV N q f = eV N q' f' := by
  have h1 : N.subs.any f = N.subs.any f' := by
    rw [Bool.eq_iff_iff, List.any_eq_true, List.any_eq_true]
    exact ⟨fun ⟨j, hj, h⟩ => ⟨j, hj, by rw [← hf j hj]; exact h⟩, fun ⟨j, hj, h⟩ => ⟨j, hj, by rw [hf j hj]; exact h⟩⟩
  have h2 : N.subs.all f = N.subs.all f' := by
    rw [Bool.eq_iff_iff, List.all_eq_true, List.all_eq_true]
    exact ⟨fun h j hj => by rw [← hf j hj]; exact h j hj, fun h j hj => by rw [hf j hj]; exact h j hj⟩
  unfold eV
  rw [h1, h2]
  by_cases h3 : N.kind = 3
  · rw [hq h3]
  · rw [if_neg h3, if_neg h3]

theorem ev_of {rs : List Rl} {n : Nat} {N : Nd} {L : List Bool} {o : Bool} (hN : NdOk n N) (h : eV N (L.getD (isI rs (ruI rs N)) false) (fun j => L.getD j false) = true) : evN rs N L o = true := by
  unfold eV at h
  unfold evN
  split
  · next h0 => rw [if_pos h0] at h; exact h
  next h0 =>
  rw [if_neg h0] at h
  split
  · next h0 => rw [if_pos h0] at h; exact h
  next h0 =>
  rw [if_neg h0] at h
  split
  · rfl
  next h0 =>
  rw [if_neg h0] at h
  split
  · next h8 =>
    rw [if_pos (.inr h8)] at h
    obtain ⟨x, hx⟩ := hN.one (by omega)
    rw [hx] at h ⊢
    simpa using h
  next h8 =>
  split
  · next h4 =>
    rw [if_pos (.inl h4)] at h
    rw [h]; simp
  next h4 =>
  rw [if_neg (by omega)] at h
  split
  · next h0 => rw [if_pos h0] at h; exact h
  next h0 =>
  rw [if_neg h0] at h
  cases h
theorem ev_to {rs : List Rl} {n : Nat} {N : Nd} {L : List Bool} {o : Bool} (hN : NdOk n N) (h : evN rs N L o = true) : o = true ∨ eV N (L.getD (isI rs (ruI rs N)) false) (fun j => L.getD j false) = true := by
  unfold evN at h
  unfold eV
  split
  · next h0 => rw [if_pos h0] at h; exact .inr h
  next h0 =>
  rw [if_neg h0] at h
  split
  · next h0 => rw [if_pos h0] at h; exact .inr h
  next h0 =>
  rw [if_neg h0] at h
  split
  · exact .inr rfl
  next h0 =>
  rw [if_neg h0] at h
  split
  · next h48 =>
    rcases h48 with h4 | h8
    · rw [if_neg (by omega), if_pos h4] at h
      rw [Bool.or_eq_true] at h
      exact h
    · rw [if_pos h8] at h
      obtain ⟨x, hx⟩ := hN.one (by omega)
      rw [hx] at h ⊢
      right
      simpa using h
  next h48 =>
  rw [if_neg (by omega), if_neg (by omega)] at h
  split
  · next h0 => rw [if_pos h0] at h; exact .inr h
  next h0 =>
  rw [if_neg h0] at h
  exact .inl h

/-- Less is known. -/
def Le (L M : List Bool) : Prop := ∀ i, L.getD i false = true → M.getD i false = true
theorem Le.refl (L : List Bool) : Le L L := fun _ h => h
theorem Le.trans {L M K : List Bool} (h : Le L M) (k : Le M K) : Le L K := fun i x => k i (h i x)
theorem Le.antisymm : ∀ {L M : List Bool}, L.length = M.length → Le L M → Le M L → L = M
  | [], [], _, _, _ => rfl
  | a :: L, b :: M, hl, h, k => by
    have h0 := h 0
    have k0 := k 0
    simp at h0 k0
    have hab : a = b := by cases a <;> cases b <;> simp_all
    subst hab
    congr 1
    exact (Le.antisymm (by simpa using hl) (fun i x => by have := h (i + 1); simp at this x ⊢; exact this x) (fun i x => by have := k (i + 1); simp at this x ⊢; exact this x))
def cnt (L : List Bool) : Nat := (L.filter id).length
theorem cnt_le (L : List Bool) : cnt L ≤ L.length := List.length_filter_le _ _
theorem cnt_mono : ∀ {L M : List Bool}, L.length = M.length → Le L M → cnt L ≤ cnt M ∧ (cnt L = cnt M → L = M)
  | [], [], _, _ => ⟨Nat.le_refl _, fun _ => rfl⟩
  | a :: L, b :: M, hl, h => by
    have h0 := h 0
    simp at h0
    obtain ⟨h1, h2⟩ := cnt_mono (L := L) (M := M) (by simpa using hl) (fun i x => by have := h (i + 1); simp at this x ⊢; exact this x)
    unfold cnt at h1 h2 ⊢
    cases a <;> cases b <;> simp at h0 ⊢
    · exact ⟨h1, h2⟩
    · exact ⟨by omega, fun h => by omega⟩
    · exact ⟨h1, h2⟩

/-- What is known is so for a reason. -/
def Pr (rs : List Rl) (ns : List Nd) (L : List Bool) : Prop := ∀ i, i < ns.length → L.getD i false = true → eV (nth ns i) (L.getD (isI rs (ruI rs (nth ns i))) false) (fun j => L.getD j false) = true
theorem nth_ok {ns : List Nd} (h : Wf ns) {i : Nat} (hi : i < ns.length) : NdOk i (nth ns i) := h i _ (by rw [nth_get hi]; exact List.getElem?_eq_getElem hi)

theorem swp_pr {rs : List Rl} {ns : List Nd} (hW : Wf ns) : ∀ k L, k ≤ ns.length → L.length = ns.length → Pr rs ns L → Pr rs ns (swp rs ns k L) ∧ Le L (swp rs ns k L)
  | 0, L, _, _, h => ⟨h, Le.refl L⟩
  | k + 1, L, hk, hl, h => by
    obtain ⟨h1, h2⟩ := swp_pr hW k L (by omega) hl h
    have hlen := swp_len rs ns k L
    rw [swp]
    generalize swp rs ns k L = M at *
    have hN := nth_ok hW (show k < ns.length by omega)
    have hle : Le M (M.set k (evN rs (nth ns k) M (M.getD k false))) := by
      intro i hi
      by_cases hik : i = k
      · subst hik
        rw [getD_set_same (by omega)]
        exact ev_of hN (h1 i (by omega) hi)
      · rw [getD_set_ne hik]; exact hi
    refine ⟨fun i hi ht => ?_, h2.trans hle⟩
    refine eV_mono (q := M.getD (isI rs (ruI rs (nth ns i))) false) (f := fun j => M.getD j false) (fun x => hle _ x) (fun j _ x => hle _ x) ?_
    by_cases hik : i = k
    · subst hik
      rw [getD_set_same (by omega)] at ht
      rcases ev_to hN ht with h3 | h3
      · exact h1 i hi h3
      · exact h3
    · rw [getD_set_ne hik] at ht
      exact h1 i hi ht
theorem swp_low {rs : List Rl} {ns : List Nd} (hW : Wf ns) (C : Nat → Bool) (hC : ∀ i, i < ns.length → eV (nth ns i) (C (isI rs (ruI rs (nth ns i)))) C = true → C i = true) : ∀ k L, k ≤ ns.length → L.length = ns.length → (∀ i, L.getD i false = true → C i = true) → ∀ i, (swp rs ns k L).getD i false = true → C i = true
  | 0, L, _, _, h => h
  | k + 1, L, hk, hl, h => by
    have h1 := swp_low hW C hC k L (by omega) hl h
    have hlen := swp_len rs ns k L
    rw [swp]
    generalize swp rs ns k L = M at *
    intro i hi
    by_cases hik : i = k
    · subst hik
      rw [getD_set_same (by omega)] at hi
      rcases ev_to (nth_ok hW (show i < ns.length by omega)) hi with h3 | h3
      · exact h1 i h3
      · exact hC i (by omega) (eV_mono (fun x => h1 _ x) (fun j _ x => h1 _ x) h3)
    · rw [getD_set_ne hik] at hi
      exact h1 i hi
theorem emp_pr {rs : List Rl} {ns : List Nd} (hW : Wf ns) : ∀ r, Pr rs ns (emp rs ns r)
  | 0 => fun i hi h => by simp [emp, List.getD, List.getElem?_replicate, hi] at h
  | r + 1 => (swp_pr hW ns.length _ (Nat.le_refl _) (emp_len rs ns r) (emp_pr hW r)).1
theorem emp_le {rs : List Rl} {ns : List Nd} (hW : Wf ns) (r : Nat) : Le (emp rs ns r) (emp rs ns (r + 1)) := (swp_pr hW ns.length _ (Nat.le_refl _) (emp_len rs ns r) (emp_pr hW r)).2
theorem emp_stay {rs : List Rl} {ns : List Nd} {r : Nat} (h : emp rs ns (r + 1) = emp rs ns r) : ∀ d, emp rs ns (r + d) = emp rs ns r
  | 0 => rfl
  | d + 1 => by rw [← Nat.add_assoc, emp, emp_stay h d]; exact h
theorem emp_cnt {rs : List Rl} {ns : List Nd} (hW : Wf ns) : ∀ r, (∃ k, k ≤ r ∧ emp rs ns (k + 1) = emp rs ns k) ∨ r + 1 ≤ cnt (emp rs ns (r + 1))
  | 0 => by
    obtain ⟨h1, h2⟩ := cnt_mono (by rw [emp_len, emp_len]) (emp_le (rs := rs) hW 0)
    by_cases h : cnt (emp rs ns 0) = cnt (emp rs ns 1)
    · exact .inl ⟨0, Nat.le_refl _, (h2 h).symm⟩
    · right
      have h3 : cnt (emp rs ns 0) ≤ cnt (emp rs ns 1) := h1
      show 1 ≤ cnt (emp rs ns 1)
      omega
  | r + 1 => by
    rcases emp_cnt hW r with ⟨k, hk, he⟩ | h
    · exact .inl ⟨k, by omega, he⟩
    · obtain ⟨h1, h2⟩ := cnt_mono (by rw [emp_len, emp_len]) (emp_le (rs := rs) hW (r + 1))
      by_cases h3 : cnt (emp rs ns (r + 1)) = cnt (emp rs ns (r + 1 + 1))
      · exact .inl ⟨r + 1, Nat.le_refl _, (h2 h3).symm⟩
      · right; omega
theorem swp_mid {rs : List Rl} {ns : List Nd} (hW : Wf ns) {L : List Bool} (hl : L.length = ns.length) (hP : Pr rs ns L) : ∀ d k, k + d = ns.length → Le (swp rs ns k L) (swp rs ns ns.length L)
  | 0, k, h => by rw [show k = ns.length by omega]; exact Le.refl _
  | d + 1, k, h => by
    refine Le.trans ?_ (swp_mid hW hl hP d (k + 1) (by omega))
    have h1 := (swp_pr hW k L (by omega) hl hP).1
    have hlen := swp_len rs ns k L
    rw [swp]
    intro i hi
    by_cases hik : i = k
    · subst hik
      rw [getD_set_same (by omega)]
      exact ev_of (nth_ok hW (by omega)) (h1 i (by omega) hi)
    · rw [getD_set_ne hik]; exact hi
theorem fix_of {rs : List Rl} {ns : List Nd} (hW : Wf ns) {L : List Bool} (hl : L.length = ns.length) (hP : Pr rs ns L) (h : swp rs ns ns.length L = L) {i : Nat} (hi : i < ns.length) :
    L.getD i false = eV (nth ns i) (L.getD (isI rs (ruI rs (nth ns i))) false) (fun j => L.getD j false) := by
  rw [Bool.eq_iff_iff]
  refine ⟨fun x => hP i hi x, fun x => ?_⟩
  have h1 := (swp_pr hW i L (by omega) hl hP).2
  have h2 := swp_mid hW hl hP (ns.length - i) i (by omega)
  rw [h] at h2
  have h3 : swp rs ns i L = L := (Le.antisymm (swp_len rs ns i L).symm h1 h2).symm
  have h4 := swp_mid hW hl hP (ns.length - (i + 1)) (i + 1) (by omega)
  rw [h, swp, h3] at h4
  have h5 := h4 i
  rw [getD_set_same (by omega)] at h5
  exact h5 (ev_of (nth_ok hW hi) x)

/-- What the ref finds empty: as few as can be. -/
theorem empty_fix {rs : List Rl} {ns : List Nd} (hW : Wf ns) {i : Nat} (hi : i < ns.length) :
    (empty rs ns).getD i false = eV (nth ns i) ((empty rs ns).getD (isI rs (ruI rs (nth ns i))) false) (fun j => (empty rs ns).getD j false) := by
  have hs : swp rs ns ns.length (empty rs ns) = empty rs ns := by
    rcases emp_cnt (rs := rs) hW ns.length with ⟨k, hk, he⟩ | h
    · have h1 := emp_stay he (ns.length + 1 - k)
      have h2 := emp_stay he (ns.length + 2 - k)
      rw [show k + (ns.length + 1 - k) = ns.length + 1 by omega] at h1
      rw [show k + (ns.length + 2 - k) = ns.length + 1 + 1 by omega] at h2
      show emp rs ns (ns.length + 1 + 1) = emp rs ns (ns.length + 1)
      rw [h1, h2]
    · have := cnt_le (emp rs ns (ns.length + 1))
      rw [emp_len] at this
      omega
  exact fix_of hW (emp_len rs ns _) (emp_pr hW _) hs hi
theorem empty_least {rs : List Rl} {ns : List Nd} (hW : Wf ns) (C : Nat → Bool) (hC : ∀ i, i < ns.length → eV (nth ns i) (C (isI rs (ruI rs (nth ns i)))) C = true → C i = true) : ∀ i, (empty rs ns).getD i false = true → C i = true := by
  have : ∀ r i, (emp rs ns r).getD i false = true → C i = true := by
    intro r
    induction r with
    | zero =>
      intro i h
      simp [emp, List.getD, List.getElem?_replicate] at h
      split at h <;> simp at h
    | succ r ih => exact swp_low hW C hC ns.length _ (Nat.le_refl _) (emp_len rs ns r) ih
  exact this _

/-- Whether a part is empty, as the code tells it: S: the rules that are. -/
def cE (rs : List Rl) (ns : List Nd) (S : Nat → Bool) : Nat → Nat → Bool
  | 0, _ => false
  | f + 1, i => eV (nth ns i) (S (ruI rs (nth ns i))) (cE rs ns S f)
theorem cE_fuel {rs : List Rl} {ns : List Nd} (hW : Wf ns) (S : Nat → Bool) : ∀ f g i, i < ns.length → i < f → i < g → cE rs ns S f i = cE rs ns S g i
  | 0, _, i, _, h, _ => absurd h (by omega)
  | _, 0, i, _, _, h => absurd h (by omega)
  | f + 1, g + 1, i, hi, hf, hg => by
    rw [cE, cE]
    exact eV_congr (fun _ => rfl) (fun j hj => by
      have := (nth_ok hW hi).low j hj
      exact cE_fuel hW S f g j (by omega) (by omega) (by omega))
theorem cE_eq {rs : List Rl} {ns : List Nd} (hW : Wf ns) (S : Nat → Bool) {i : Nat} (hi : i < ns.length) : cE rs ns S ns.length i = eV (nth ns i) (S (ruI rs (nth ns i))) (cE rs ns S ns.length) := by
  have h1 := cE_fuel (rs := rs) hW S ns.length (ns.length + 1) i hi hi (by omega)
  rw [h1, cE]
theorem cE_mono {rs : List Rl} {ns : List Nd} (hW : Wf ns) {S S' : Nat → Bool} (h : ∀ i, i < ns.length → (nth ns i).kind = 3 → S (ruI rs (nth ns i)) = true → S' (ruI rs (nth ns i)) = true) : ∀ f i, i < ns.length → cE rs ns S f i = true → cE rs ns S' f i = true
  | 0, i, _, x => by cases x
  | f + 1, i, hi, x => by
    rw [cE] at x ⊢
    by_cases h3 : (nth ns i).kind = 3
    · exact eV_mono (h i hi h3) (fun j hj y => cE_mono hW h f j (by have := (nth_ok hW hi).low j hj; omega) y) x
    · rw [eV_congr (q' := S (ruI rs (nth ns i))) (f' := cE rs ns S' f) (fun h => absurd h h3) (fun _ _ => rfl)]
      exact eV_mono (fun y => y) (fun j hj y => cE_mono hW h f j (by have := (nth_ok hW hi).low j hj; omega) y) x
theorem cE_congr {rs : List Rl} {ns : List Nd} (hW : Wf ns) {S S' : Nat → Bool} (h : ∀ i, i < ns.length → (nth ns i).kind = 3 → S (ruI rs (nth ns i)) = S' (ruI rs (nth ns i))) (f i : Nat) (hi : i < ns.length) : cE rs ns S f i = cE rs ns S' f i := by
  rw [Bool.eq_iff_iff]
  exact ⟨cE_mono hW (fun i hi hk x => by rw [← h i hi hk]; exact x) f i hi, cE_mono hW (fun i hi hk x => by rw [h i hi hk]; exact x) f i hi⟩

/-- The code's rules that are empty: none that need not be. -/
structure Lst (rs : List Rl) (ns : List Nd) (S : Nat → Bool) : Prop where
  fix : ∀ i, i < rs.length → S i = cE rs ns S ns.length (isI rs i)
  least : ∀ C : Nat → Bool, (∀ i, i < rs.length → C i = cE rs ns C ns.length (isI rs i)) → ∀ i, i < rs.length → S i = true → C i = true

theorem isI_lt {rs : List Rl} {ns : List Nd} (hW : WfR ns rs) {i : Nat} (hi : i < rs.length) : isI rs i < ns.length := by
  unfold isI
  rw [List.getD, List.getElem?_map, List.getElem?_eq_getElem hi]
  exact hW.is _ (List.getElem_mem hi)
theorem ruI_lt {rs : List Rl} {ns : List Nd} (hN : ∀ N ∈ ns, N.kind = 3 → (fndI rs N.name).isSome = true) {i : Nat} (hi : i < ns.length) (hk : (nth ns i).kind = 3) : ruI rs (nth ns i) < rs.length := by
  rw [nth_get hi] at hk ⊢
  obtain ⟨k, hk'⟩ := Option.isSome_iff_exists.1 (hN _ (List.getElem_mem hi) hk)
  unfold ruI
  rw [hk']
  exact fndI_lt hk'

theorem empty_code {rs : List Rl} {ns : List Nd} (hW : WfR ns rs) (hN : ∀ N ∈ ns, N.kind = 3 → (fndI rs N.name).isSome = true) {S : Nat → Bool} (hS : Lst rs ns S) : ∀ i, i < ns.length → (empty rs ns).getD i false = cE rs ns S ns.length i := by
  have hV : ∀ f i, i < ns.length → i < f → cE rs ns (fun k => (empty rs ns).getD (isI rs k) false) f i = (empty rs ns).getD i false := by
    intro f
    induction f with
    | zero => intro i _ h; omega
    | succ f ih =>
      intro i hi hf
      rw [cE, empty_fix hW.wf hi]
      exact eV_congr (fun _ => rfl) (fun j hj => by
        have := (nth_ok hW.wf hi).low j hj
        exact ih j (by omega) (by omega))
  intro i hi
  rw [Bool.eq_iff_iff]
  constructor
  · refine empty_least hW.wf (fun j => decide (j < ns.length) && cE rs ns S ns.length j) (fun j hj h => ?_) i |> fun h x => by
      have := h x
      simp at this
      exact this.2
    rw [Bool.and_eq_true]
    refine ⟨by simpa using hj, ?_⟩
    rw [cE_eq hW.wf S hj]
    by_cases h3 : (nth ns j).kind = 3
    · refine eV_mono (fun x => ?_) (fun k _ x => by simp at x; exact x.2) h
      have hr := ruI_lt hN hj h3
      rw [hS.fix _ hr]
      simp at x
      exact x.2
    · rw [eV_congr (q' := decide (isI rs (ruI rs (nth ns j)) < ns.length) && cE rs ns S ns.length (isI rs (ruI rs (nth ns j)))) (f' := cE rs ns S ns.length) (fun h => absurd h h3) (fun _ _ => rfl)]
      exact eV_mono (fun x => x) (fun k _ x => by simp at x; exact x.2) h
  · intro h
    have h1 := hS.least (fun k => (empty rs ns).getD (isI rs k) false) (fun k hk => (hV ns.length _ (isI_lt hW hk) (isI_lt hW hk)).symm)
    rw [← hV ns.length i hi hi]
    exact cE_mono hW.wf (fun k hk h3 x => h1 _ (ruI_lt hN hk h3) x) _ i hi h
end Go.Proofs.YtagklnaaoclmhaaGreatDoor

namespace Go.Proofs.YtagklnaaoclmhaaGreatDoor
open Go.RowKit

theorem bgL_off {step : Nat → Bool → List Bool → Bool × List Bool} {E : List Bool} {kind : Nat} (hs : ∀ j W, (step j false W).2 = W) : ∀ l bad W, (bgL step E kind l bad false W).2 = W
  | [], _, _ => rfl
  | j :: r, bad, W => by rw [bgL, show (if kind = 5 ∧ E.getD j false = false then false else false) = false by split <;> rfl, bgL_off hs r, hs]
theorem bgF_off {rs : List Rl} {ns : List Nd} {E : List Bool} : ∀ f i W, (bgF rs ns E f i false W).2 = W
  | 0, _, _ => rfl
  | f + 1, i, W => by rw [bgF, bgL_off (fun j W => bgF_off f j W)]; simp

/-- addBegins, as the code has it. -/
def aL (step : Nat → List Bool → List Bool) (e : Nat → Bool) (kind : Nat) : List Nat → List Bool → List Bool
  | [], W => W
  | j :: r, W => if kind = 5 ∧ e j = false then step j W else aL step e kind r (step j W)
def aB (rs : List Rl) (ns : List Nd) (S : Nat → Bool) : Nat → Nat → List Bool → List Bool
  | 0, _, W => W
  | f + 1, i, W => aL (aB rs ns S f) (cE rs ns S ns.length) (nth ns i).kind (nth ns i).subs (if (nth ns i).kind = 3 then W.set (ruI rs (nth ns i)) true else W)
theorem aL_len {step : Nat → List Bool → List Bool} {e : Nat → Bool} {kind : Nat} (hs : ∀ j W, (step j W).length = W.length) : ∀ l W, (aL step e kind l W).length = W.length
  | [], _ => rfl
  | j :: r, W => by
    rw [aL]
    split
    · exact hs j W
    · rw [aL_len hs r, hs]
theorem aB_len {rs : List Rl} {ns : List Nd} {S : Nat → Bool} : ∀ f i W, (aB rs ns S f i W).length = W.length
  | 0, _, _ => rfl
  | f + 1, i, W => by
    rw [aB, aL_len (fun j W => aB_len f j W)]
    split <;> simp
/-- The same rules, in lists of different lengths. -/
structure Sam (W V : List Bool) : Prop where
  le : W.length ≤ V.length
  eq : ∀ k, W.getD k false = V.getD k false
theorem Sam.set {W V : List Bool} (h : Sam W V) {k : Nat} (hk : k < W.length) (v : Bool) : Sam (W.set k v) (V.set k v) := by
  have := h.le
  refine ⟨by simpa using h.le, fun j => ?_⟩
  by_cases hj : j = k
  · subst hj; rw [getD_set_same hk, getD_set_same (by omega)]
  · rw [getD_set_ne hj, getD_set_ne hj]; exact h.eq j
theorem bgL_sam {n : Nat} {step : Nat → Bool → List Bool → Bool × List Bool} {st : Nat → List Bool → List Bool} {E : List Bool} {e : Nat → Bool} {kind : Nat} (hf : ∀ j W, (step j false W).2 = W) : ∀ l bad W V, (∀ j ∈ l, E.getD j false = e j) → (∀ j ∈ l, ∀ W V, W.length = n → Sam W V → Sam (step j true W).2 (st j V) ∧ (step j true W).2.length = n) → W.length = n → Sam W V → Sam (bgL step E kind l bad true W).2 (aL st e kind l V) ∧ (bgL step E kind l bad true W).2.length = n
  | [], _, _, _, _, _, hn, h => ⟨h, hn⟩
  | j :: r, bad, W, V, he, hs, hn, h => by
    obtain ⟨h1, h2⟩ := hs j (List.mem_cons_self ..) W V hn h
    rw [bgL, aL, he j (List.mem_cons_self ..)]
    by_cases hc : kind = 5 ∧ e j = false
    · rw [if_pos hc, if_pos hc, bgL_off hf]; exact ⟨h1, h2⟩
    · rw [if_neg hc, if_neg hc]
      exact bgL_sam hf r _ _ _ (fun j hj => he j (List.mem_cons_of_mem _ hj)) (fun j hj => hs j (List.mem_cons_of_mem _ hj)) h2 h1
theorem begins_code {rs : List Rl} {ns : List Nd} {E : List Bool} {S : Nat → Bool} (hW : WfR ns rs) (hN : ∀ N ∈ ns, N.kind = 3 → (fndI rs N.name).isSome = true) (hE : ∀ i, i < ns.length → E.getD i false = cE rs ns S ns.length i) : ∀ f i W V, i < ns.length → W.length = rs.length → Sam W V → Sam (bgF rs ns E f i true W).2 (aB rs ns S f i V) ∧ (bgF rs ns E f i true W).2.length = rs.length
  | 0, i, W, V, _, hn, h => ⟨h, hn⟩
  | f + 1, i, W, V, hi, hn, h => by
    rw [bgF, aB]
    have hlow := (nth_ok hW.wf hi).low
    refine bgL_sam (fun j W => bgF_off f j W) _ _ _ _ (fun j hj => hE j (by have := hlow j hj; omega)) (fun j hj W V hn' h' => begins_code hW hN hE f j W V (by have := hlow j hj; omega) hn' h') ?_ ?_
    · split <;> simp [hn]
    · by_cases h3 : (nth ns i).kind = 3
      · rw [if_pos ⟨h3, rfl⟩, if_pos h3]
        exact h.set (by rw [hn]; exact ruI_lt hN hi h3) true
      · rw [if_neg (fun x => h3 x.1), if_neg h3]; exact h

/-- repeatsEmpty. -/
def rE (rs : List Rl) (ns : List Nd) (S : Nat → Bool) : Nat → Nat → Bool
  | 0, _ => false
  | f + 1, i => (nth ns i).subs.any (fun j => (decide ((nth ns i).kind = 7 ∨ (nth ns i).kind = 8) && cE rs ns S ns.length j) || rE rs ns S f j)
theorem bgL_bad {step : Nat → Bool → List Bool → Bool × List Bool} {E : List Bool} {kind : Nat} {g : Nat → Bool} : ∀ l bad a W, (∀ j ∈ l, ∀ a W, (step j a W).1 = g j) → (bgL step E kind l bad a W).1 = (bad || l.any g)
  | [], bad, _, _, _ => by simp [bgL]
  | j :: r, bad, a, W, hs => by
    rw [bgL, bgL_bad r _ _ _ (fun j hj => hs j (List.mem_cons_of_mem _ hj)), hs j (List.mem_cons_self ..), List.any_cons, Bool.or_assoc]
theorem repeats_code {rs : List Rl} {ns : List Nd} {E : List Bool} {S : Nat → Bool} (hW : Wf ns) (hE : ∀ i, i < ns.length → E.getD i false = cE rs ns S ns.length i) : ∀ f i a W, i < ns.length → (bgF rs ns E f i a W).1 = rE rs ns S f i
  | 0, i, _, _, _ => rfl
  | f + 1, i, a, W, hi => by
    have hlow := (nth_ok hW hi).low
    rw [bgF, rE, bgL_bad (g := rE rs ns S f) _ _ _ _ (fun j hj a W => repeats_code hW hE f j a W (by have := hlow j hj; omega))]
    by_cases hk : (nth ns i).kind = 7 ∨ (nth ns i).kind = 8
    · obtain ⟨x, hx⟩ := (nth_ok hW hi).one (by omega)
      rw [hx] at hlow ⊢
      have := hlow x (by simp)
      simp only [hk, decide_true, Bool.true_and, List.getD_cons_zero, List.any_cons, List.any_nil, Bool.or_false]
      rw [hE x (by omega)]
    · simp [hk]

/-- The closure, as the code makes it. -/
def cw (M : Nat → Nat → Bool) (k i : Nat) : Nat → Nat → Bool := fun a b => if a = i then M i b || (M i k && M k b) else M a b
def cI (M : Nat → Nat → Bool) (k : Nat) : Nat → Nat → Nat → Bool
  | 0 => M
  | i + 1 => cw (cI M k i) k i
def cK (M : Nat → Nat → Bool) : Nat → Nat → Nat → Bool
  | 0 => M
  | k + 1 => cI (cK M k) k 8
theorem getD_out {α : Type} {l : List α} {i : Nat} {d : α} (h : l.length ≤ i) : l.getD i d = d := by simp [List.getD, List.getElem?_eq_none h]
/-- A square of n rows of n. -/
structure Sqr (n : Nat) (M : List (List Bool)) : Prop where
  len : M.length = n
  row : ∀ i, i < n → (M.getD i []).length = n
theorem Sqr.out1 {n : Nat} {M : List (List Bool)} (h : Sqr n M) {a b : Nat} (ha : n ≤ a) : at2 M a b = false := by
  unfold at2
  rw [show M.getD a [] = [] from getD_out (by rw [h.len]; exact ha)]; simp
theorem Sqr.out2 {n : Nat} {M : List (List Bool)} (h : Sqr n M) {a b : Nat} (hb : n ≤ b) : at2 M a b = false := by
  rcases Nat.lt_or_ge a n with ha | ha
  · unfold at2; rw [getD_out (by rw [h.row a ha]; exact hb)]
  · exact h.out1 ha
theorem getD_setL {M : List (List Bool)} {i a : Nat} {r : List Bool} (hi : i < M.length) : (M.set i r).getD a [] = if a = i then r else M.getD a [] := by
  by_cases h : a = i
  · subst h; rw [if_pos rfl]; simp [List.getD, hi]
  · rw [if_neg h]; simp [List.getD, List.getElem?_set, Ne.symm h]
theorem at2_upd {n : Nat} {M : List (List Bool)} (h : Sqr n M) {k i j : Nat} (hi : i < n) (hj : j < n) (a b : Nat) : at2 (upd M k i j) a b = if a = i ∧ b = j then at2 M i j || (at2 M i k && at2 M k j) else at2 M a b := by
  unfold upd
  generalize (at2 M i j || (at2 M i k && at2 M k j)) = v
  unfold at2
  rw [getD_setL (by rw [h.len]; exact hi)]
  by_cases ha : a = i
  · subst ha
    rw [if_pos rfl]
    by_cases hb : b = j
    · subst hb; rw [if_pos ⟨rfl, rfl⟩, getD_set_same (by rw [h.row a hi]; exact hj)]
    · rw [if_neg (fun x => hb x.2), getD_set_ne hb]
  · rw [if_neg ha, if_neg (fun x => ha x.1)]
theorem Sqr.upd {n : Nat} {M : List (List Bool)} (h : Sqr n M) {k i j : Nat} (hi : i < n) : Sqr n (upd M k i j) := by
  refine ⟨by simp [Go.Proofs.YtagklnaaoclmhaaGreatDoor.upd, h.len], fun a ha => ?_⟩
  unfold Go.Proofs.YtagklnaaoclmhaaGreatDoor.upd
  rw [getD_setL (by rw [h.len]; exact hi)]
  split
  · rw [List.length_set]; exact h.row i hi
  · exact h.row a ha
theorem wj_at {n : Nat} {M : List (List Bool)} (h : Sqr n M) {k i : Nat} (hi : i < n) : ∀ j, j ≤ n → Sqr n (wj M k i j) ∧ ∀ a b, at2 (wj M k i j) a b = if a = i ∧ b < j then at2 M i b || (at2 M i k && at2 M k b) else at2 M a b
  | 0, _ => ⟨h, fun a b => by rw [if_neg (by omega)]; rfl⟩
  | j + 1, hj => by
    obtain ⟨h1, h2⟩ := wj_at h hi j (by omega)
    refine ⟨h1.upd hi, fun a b => ?_⟩
    rw [wj, at2_upd h1 hi (by omega)]
    have e1 : at2 (wj M k i j) i k = at2 M i k := by
      rw [h2]
      split
      · cases at2 M i k <;> simp
      · rfl
    have e2 : at2 (wj M k i j) k j = at2 M k j := by rw [h2, if_neg (by omega)]
    have e3 : at2 (wj M k i j) i j = at2 M i j := by rw [h2, if_neg (by omega)]
    rw [e1, e2, e3]
    by_cases hb : a = i ∧ b = j
    · obtain ⟨rfl, rfl⟩ := hb
      rw [if_pos ⟨rfl, rfl⟩, if_pos ⟨rfl, by omega⟩]
    · rw [if_neg hb, h2]
      by_cases hc : a = i ∧ b < j
      · rw [if_pos hc, if_pos ⟨hc.1, by omega⟩]
      · rw [if_neg hc, if_neg (by omega)]
theorem wj_cw {n : Nat} {M : List (List Bool)} (h : Sqr n M) {k i : Nat} (hi : i < n) (a b : Nat) : at2 (wj M k i n) a b = cw (at2 M) k i a b := by
  rw [(wj_at h hi n (Nat.le_refl _)).2]
  unfold cw
  by_cases ha : a = i
  · subst ha
    rw [if_pos rfl]
    by_cases hb : b < n
    · rw [if_pos ⟨rfl, hb⟩]
    · rw [if_neg (fun x => hb x.2), h.out2 (a := a) (b := b) (by omega), h.out2 (a := k) (b := b) (by omega)]; simp
  · rw [if_neg ha, if_neg (fun x => ha x.1)]
theorem wi_cI {n : Nat} {M : List (List Bool)} (h : Sqr n M) (k : Nat) : ∀ i, i ≤ n → Sqr n (wi n M k i) ∧ at2 (wi n M k i) = cI (at2 M) k i
  | 0, _ => ⟨h, rfl⟩
  | i + 1, hi => by
    obtain ⟨h1, h2⟩ := wi_cI h k i (by omega)
    refine ⟨(wj_at h1 (by omega) n (Nat.le_refl _)).1, ?_⟩
    funext a b
    rw [wi, wj_cw h1 (by omega), h2, cI]
theorem cI_row {M : Nat → Nat → Bool} {k n : Nat} (h : ∀ a b, n ≤ a → M a b = false) : ∀ d, cI M k (n + d) = cI M k n
  | 0 => rfl
  | d + 1 => by
    rw [← Nat.add_assoc, cI, cI_row h d]
    have hr : ∀ i a b, n ≤ a → cI M k i a b = false := by
      intro i
      induction i with
      | zero => exact h
      | succ i ih =>
        intro a b ha
        rw [cI]
        unfold cw
        split
        · next he => subst he; rw [ih a b ha, ih a k ha]; rfl
        · exact ih a b ha
    funext a b
    unfold cw
    split
    · next he => subst he; rw [hr n (n + d) k (by omega)]; simp
    · rfl
theorem cI_col {M : Nat → Nat → Bool} {k : Nat} (h : ∀ a, M a k = false) : ∀ i, cI M k i = M
  | 0 => rfl
  | i + 1 => by
    rw [cI, cI_col h i]
    funext a b
    unfold cw
    split
    · next he => subst he; rw [h]; simp
    · rfl
theorem wk_cK {n : Nat} {M : List (List Bool)} (h : Sqr n M) (h8 : n ≤ 8) : ∀ k, k ≤ n → Sqr n (wk n M k) ∧ at2 (wk n M k) = cK (at2 M) k
  | 0, _ => ⟨h, rfl⟩
  | k + 1, hk => by
    obtain ⟨h1, h2⟩ := wk_cK h h8 k (by omega)
    obtain ⟨h3, h4⟩ := wi_cI h1 k n (Nat.le_refl _)
    refine ⟨h3, ?_⟩
    rw [wk, h4, cK, ← h2]
    have := cI_row (M := at2 (wk n M k)) (k := k) (n := n) (fun a b ha => h1.out1 ha) (8 - n)
    rw [show n + (8 - n) = 8 by omega] at this
    exact this.symm
theorem cK_stay {n : Nat} {M : List (List Bool)} (h : Sqr n M) (h8 : n ≤ 8) : ∀ d, cK (at2 M) (n + d) = at2 (wk n M n)
  | 0 => (wk_cK h h8 n (Nat.le_refl _)).2.symm
  | d + 1 => by
    rw [← Nat.add_assoc, cK, cK_stay h h8 d]
    exact cI_col (fun a => (wk_cK h h8 n (Nat.le_refl _)).1.out2 (by omega)) 8

/-- What the code finds at first: of each rule, with which ones it begins. -/
def m0 (rs : List Rl) (ns : List Nd) (S : Nat → Bool) (a b : Nat) : Bool := decide (a < rs.length) && (aB rs ns S ns.length (isI rs a) (List.replicate 8 false)).getD b false
/-- The first rule that could go on for ever. -/
def cEnd (rs : List Rl) (ns : List Nd) (S : Nat → Bool) (i : Nat) : Bool := cK (m0 rs ns S) 8 i i || rE rs ns S ns.length (isI rs i)

theorem endless_code {rs : List Rl} {ns : List Nd} {S : Nat → Bool} (hW : WfR ns rs) (hN : ∀ N ∈ ns, N.kind = 3 → (fndI rs N.name).isSome = true) (hS : Lst rs ns S) (i : Nat) (hi : i < rs.length) :
    (at2 (leads rs ns) i i || (bads rs ns rs.length).getD i false) = cEnd rs ns S i := by
  have hE := empty_code hW hN hS
  have hb := fun t (ht : t < rs.length) => begins_code hW hN hE ns.length (isI rs t) (List.replicate rs.length false) (List.replicate 8 false) (isI_lt hW ht) (by simp) ⟨by simpa using hW.len, fun k => by
    simp only [List.getD, List.getElem?_replicate]
    split <;> split <;> rfl⟩
  have hM : at2 (leads0 rs ns rs.length) = m0 rs ns S := by
    funext a b
    unfold m0
    by_cases ha : a < rs.length
    · rw [decide_eq_true ha, Bool.true_and, ← (hb a ha).1.eq b]
      have : (leads0 rs ns rs.length).getD a [] = (bgX rs ns a).2 := by
        unfold leads0
        rw [List.getD, List.getElem?_map, List.getElem?_range ha]
        rfl
      unfold at2
      rw [this]
      rfl
    · rw [decide_eq_false ha, Bool.false_and]
      unfold at2
      rw [show (leads0 rs ns rs.length).getD a [] = [] from getD_out (by simp [leads0]; omega)]; simp
  have hsq : Sqr rs.length (leads0 rs ns rs.length) := by
    refine ⟨by simp [leads0], fun t ht => ?_⟩
    unfold leads0
    rw [List.getD, List.getElem?_map, List.getElem?_range ht]
    exact (hb t ht).2
  have h1 := cK_stay hsq hW.len (8 - rs.length)
  rw [show rs.length + (8 - rs.length) = 8 by have := hW.len; omega] at h1
  unfold cEnd
  rw [← hM, h1]
  congr 1
  unfold bads
  rw [List.getD, List.getElem?_map, List.getElem?_range hi]
  show (decide (i < rs.length) && (bgX rs ns i).1) = _
  rw [decide_eq_true hi, Bool.true_and]
  exact repeats_code hW.wf hE ns.length (isI rs i) true _ (isI_lt hW hi)
end Go.Proofs.YtagklnaaoclmhaaGreatDoor

namespace Go.Proofs.YtagklnaaoclmhaaGreatDoor
open Go.RowKit

/-! The closure that the code makes is one. -/
theorem cI_upd {M : Nat → Nat → Bool} {k : Nat} : ∀ i a b, cI M k i a b = if a < i then M a b || (M a k && M k b) else M a b
  | 0, a, b => by simp [cI]
  | i + 1, a, b => by
    rw [cI]
    unfold cw
    rw [cI_upd i i b, cI_upd i i k, cI_upd i k b, cI_upd i a b]
    by_cases ha : a = i
    · subst ha
      rw [if_pos rfl, if_neg (Nat.lt_irrefl _), if_neg (Nat.lt_irrefl _), if_pos (Nat.lt_succ_self _)]
      by_cases hk : k < a
      · rw [if_pos hk]
        cases M a b <;> cases M a k <;> cases M k b <;> cases M k k <;> rfl
      · rw [if_neg hk]
    · rw [if_neg ha]
      by_cases h2 : a < i
      · rw [if_pos h2, if_pos (by omega)]
      · rw [if_neg h2, if_neg (by omega)]
theorem cK_clo (M : Nat → Nat → Bool) : ∀ k, k ≤ 8 → ∀ m i j, m < k → i < 8 → j < 8 → cK M k i m = true → cK M k m j = true → cK M k i j = true
  | 0, _, m, _, _, hm, _, _, _, _ => absurd hm (by omega)
  | k + 1, hk, m, i, j, hm, hi, hj, h1, h2 => by
    have ih := cK_clo M k (by omega)
    rw [cK, cI_upd] at h1 h2 ⊢
    rw [if_pos hi] at h1 ⊢
    rw [if_pos (show m < 8 by omega)] at h2
    generalize cK M k = N at *
    rw [Bool.or_eq_true, Bool.and_eq_true] at h1 h2 ⊢
    by_cases hmk : m = k
    · subst hmk
      right
      refine ⟨?_, ?_⟩
      · rcases h1 with h | h
        · exact h
        · exact h.1
      · rcases h2 with h | h
        · exact h
        · exact h.2
    · have hmk' : m < k := by omega
      rcases h1 with h1 | h1
      · rcases h2 with h2 | h2
        · exact .inl (ih m i j hmk' hi hj h1 h2)
        · exact .inr ⟨ih m i k hmk' hi (by omega) h1 h2.1, h2.2⟩
      · rcases h2 with h2 | h2
        · exact .inr ⟨h1.1, ih m k j hmk' (by omega) hj h1.2 h2⟩
        · exact .inr ⟨h1.1, h2.2⟩
theorem cK_up (M : Nat → Nat → Bool) (i j : Nat) (h : M i j = true) : ∀ k, cK M k i j = true
  | 0 => h
  | k + 1 => by
    rw [cK, cI_upd]
    split
    · rw [cK_up M i j h k]; simp
    · exact cK_up M i j h k

/-- How many rules a rule comes to. -/
def rnk (M : Nat → Nat → Bool) (r : Nat) : Nat := ((List.range 8).filter (fun x => cK M 8 r x)).length
theorem filter_lt {p q : Nat → Bool} {x : Nat} : ∀ {l : List Nat}, (∀ y ∈ l, p y = true → q y = true) → x ∈ l → p x = false → q x = true → (l.filter p).length < (l.filter q).length
  | [], _, hx, _, _ => absurd hx (by simp)
  | y :: l, h, hx, h1, h2 => by
    have hle : (l.filter p).length ≤ (l.filter q).length := by
      clear hx
      induction l with
      | nil => simp
      | cons z l ih =>
        have := ih (fun w hw => h w (by simp at hw ⊢; rcases hw with e | e; exact .inl e; exact .inr (.inr e)))
        have hz := h z (by simp)
        cases hp : p z <;> cases hq : q z <;> simp [hp, hq] at hz ⊢ <;> omega
    rcases List.mem_cons.1 hx with e | e
    · subst e
      rw [List.filter_cons_of_neg (by simp [h1]), List.filter_cons_of_pos h2, List.length_cons]
      omega
    · have := filter_lt (fun w hw => h w (List.mem_cons_of_mem _ hw)) e h1 h2
      have hy := h y (List.mem_cons_self ..)
      cases hp : p y <;> cases hq : q y <;> simp [hp, hq] at hy ⊢ <;> omega
theorem rnk_lt {M : Nat → Nat → Bool} {a b : Nat} (ha : a < 8) (hb : b < 8) (h : M a b = true) (hb0 : cK M 8 b b = false) : rnk M b < rnk M a := by
  unfold rnk
  refine filter_lt (x := b) (fun y hy hp => ?_) (List.mem_range.2 hb) hb0 (cK_up M a b h 8)
  exact cK_clo M 8 (Nat.le_refl _) b a y hb ha (List.mem_range.1 hy) (cK_up M a b h 8) hp
theorem rnk_le (M : Nat → Nat → Bool) (a : Nat) : rnk M a ≤ 8 := by
  unfold rnk
  exact Nat.le_trans (List.length_filter_le _ _) (by simp)

/-! What a rule begins with, as a word. -/
inductive Bg (rs : List Rl) (ns : List Nd) (S : Nat → Bool) : Nat → Nat → Prop
  | name {i : Nat} (h : (nth ns i).kind = 3) : Bg rs ns S i (ruI rs (nth ns i))
  | sub {i j r : Nat} (h : j ∈ (nth ns i).subs) (hk : (nth ns i).kind ≠ 5) (hb : Bg rs ns S j r) : Bg rs ns S i r
  | item {i j r : Nat} {l m : List Nat} (h : (nth ns i).subs = l ++ j :: m) (hk : (nth ns i).kind = 5) (he : ∀ x ∈ l, cE rs ns S ns.length x = true) (hb : Bg rs ns S j r) : Bg rs ns S i r

theorem aL_up {step : Nat → List Bool → List Bool} {e : Nat → Bool} {kind r : Nat} (hs : ∀ j W, W.getD r false = true → (step j W).getD r false = true) : ∀ l W, W.getD r false = true → (aL step e kind l W).getD r false = true
  | [], W, h => h
  | j :: l, W, h => by
    rw [aL]
    split
    · exact hs j W h
    · exact aL_up hs l _ (hs j W h)
theorem aB_up {rs : List Rl} {ns : List Nd} {S : Nat → Bool} {r : Nat} : ∀ f i W, W.getD r false = true → (aB rs ns S f i W).getD r false = true
  | 0, _, _, h => h
  | f + 1, i, W, h => by
    rw [aB]
    refine aL_up (fun j W h => aB_up f j W h) _ _ ?_
    split
    · by_cases hr : r = ruI rs (nth ns i)
      · by_cases hl : r < W.length
        · rw [hr, getD_set_same (by omega)]
        · rw [List.set_eq_of_length_le (by omega)]; exact h
      · rw [getD_set_ne hr]; exact h
    · exact h
theorem aL_sub {step : Nat → List Bool → List Bool} {e : Nat → Bool} {kind r j n : Nat} (hu : ∀ j W, W.getD r false = true → (step j W).getD r false = true) (hl : ∀ j W, (step j W).length = W.length) (hj : ∀ W, W.length = n → (step j W).getD r false = true) (hk : kind ≠ 5) : ∀ l W, W.length = n → j ∈ l → (aL step e kind l W).getD r false = true
  | [], W, _, h => absurd h (by simp)
  | x :: l, W, hn, h => by
    rw [aL, if_neg (fun y => hk y.1)]
    rcases List.mem_cons.1 h with e | e
    · subst e; exact aL_up hu l _ (hj W hn)
    · exact aL_sub hu hl hj hk l _ (by rw [hl]; exact hn) e
theorem aL_item {step : Nat → List Bool → List Bool} {e : Nat → Bool} {kind r j n : Nat} {m : List Nat} (hu : ∀ j W, W.getD r false = true → (step j W).getD r false = true) (hl : ∀ j W, (step j W).length = W.length) (hj : ∀ W, W.length = n → (step j W).getD r false = true) : ∀ l W, W.length = n → (∀ x ∈ l, e x = true) → (aL step e kind (l ++ j :: m) W).getD r false = true
  | [], W, hn, _ => by
    rw [List.nil_append, aL]
    split
    · exact hj W hn
    · exact aL_up hu m _ (hj W hn)
  | x :: l, W, hn, h => by
    rw [List.cons_append, aL, if_neg (fun y => by rw [h x (List.mem_cons_self ..)] at y; exact Bool.noConfusion y.2)]
    exact aL_item hu hl hj l _ (by rw [hl]; exact hn) (fun y hy => h y (List.mem_cons_of_mem _ hy))
theorem Bg.told {rs : List Rl} {ns : List Nd} {S : Nat → Bool} (hW : Wf ns) {i r : Nat} (h : Bg rs ns S i r) : ∀ f W, i < f → i < ns.length → r < W.length → (aB rs ns S f i W).getD r false = true := by
  induction h with
  | name hk =>
    intro f W hf hi hr
    cases f with
    | zero => omega
    | succ f =>
      rw [aB, if_pos hk]
      exact aL_up (fun j W h => aB_up f j W h) _ _ (getD_set_same hr)
  | @sub i j r hj hk hb ih =>
    intro f W hf hi hr
    have hlow := (nth_ok hW hi).low j hj
    cases f with
    | zero => omega
    | succ f =>
      rw [aB]
      exact aL_sub (n := W.length) (fun j W h => aB_up f j W h) (fun j W => aB_len f j W) (fun W' hW' => ih f W' (by omega) (by omega) (by omega)) hk _ _ (by split <;> simp) hj
  | @item i j r l m he hk hl hb ih =>
    intro f W hf hi hr
    have hlow := (nth_ok hW hi).low j (by rw [he]; simp)
    cases f with
    | zero => omega
    | succ f =>
      rw [aB, if_neg (by omega), he]
      exact aL_item (n := W.length) (fun j W h => aB_up f j W h) (fun j W => aB_len f j W) (fun W' hW' => ih f W' (by omega) (by omega) (by omega)) _ W rfl hl

/-! What matches, its tree, what failed and how many runs there were: the document's words. -/
structure Nod where
  rule : Nat
  from_ : Nat
  to : Nat
  dep : Nat
/-- What came of an expression at a place: up to where, the failures (place, terminal) in their order, the runs, the nodes. -/
structure Ot where
  to : Option Nat
  ev : List (Nat × Nat)
  rn : Nat
  tr : List Nod

def litB (b : Nat → Nat) (len at_ : Nat) (t : List UInt8) : Bool := decide (at_ + t.length ≤ len) && (List.range t.length).all (fun k => b (at_ + k) == (t.getD k 0).toNat)
def tmT (b : Nat → Nat) (len : Nat) (N : Nd) (at_ : Nat) : Option Nat :=
  if N.kind = 0 then (if litB b len at_ N.text then some (at_ + N.text.length) else none)
  else if at_ < len ∧ (N.kind = 2 ∨ inR N.rng (b at_) = true) then some (at_ + 1) else none
def tmO (b : Nat → Nat) (len : Nat) (N : Nd) (at_ : Nat) : Ot := ⟨tmT b len N at_, if (tmT b len N at_).isNone then [(at_, N.term)] else [], 0, []⟩

def chO (step : Nat → Option Ot) : List Nat → Option Ot
  | [] => some ⟨none, [], 0, []⟩
  | j :: l => match step j with
    | none => none
    | some o => if o.to.isSome then some o else (chO step l).map (fun p => ⟨p.to, o.ev ++ p.ev, o.rn + p.rn, p.tr⟩)
def sqO (step : Nat → Nat → Option Ot) : List Nat → Nat → Option Ot
  | [], a => some ⟨some a, [], 0, []⟩
  | j :: l, a => match step j a with
    | none => none
    | some o => match o.to with
      | none => some ⟨none, o.ev, o.rn, []⟩
      | some t => (sqO step l t).map (fun p => ⟨p.to, o.ev ++ p.ev, o.rn + p.rn, if p.to.isSome then o.tr ++ p.tr else []⟩)
def rpO (step : Nat → Option Ot) : Nat → Nat → Option Ot
  | 0, _ => none
  | f + 1, a => match step a with
    | none => none
    | some o => match o.to with
      | none => some ⟨some a, o.ev, o.rn, []⟩
      | some t => (rpO step f t).map (fun p => ⟨p.to, o.ev ++ p.ev, o.rn + p.rn, o.tr ++ p.tr⟩)

def mtc (b : Nat → Nat) (len : Nat) (rs : List Rl) (ns : List Nd) : Nat → Nat → Nat → Nat → Option Ot
  | 0, _, _, _ => none
  | f + 1, i, a, dp =>
    if (nth ns i).kind ≤ 2 then some (tmO b len (nth ns i) a)
    else if (nth ns i).kind = 3 then (mtc b len rs ns f (isI rs (ruI rs (nth ns i))) a (dp + 1)).map (fun o => ⟨o.to, o.ev, o.rn + 1, match o.to with | some t => ⟨ruI rs (nth ns i), a, t, dp⟩ :: o.tr | none => []⟩)
    else if (nth ns i).kind = 4 then chO (fun j => mtc b len rs ns f j a dp) (nth ns i).subs
    else if (nth ns i).kind = 5 then sqO (fun j a => mtc b len rs ns f j a dp) (nth ns i).subs a
    else if (nth ns i).kind = 6 then (mtc b len rs ns f ((nth ns i).subs.getD 0 0) a dp).map (fun o => if o.to.isNone then ⟨some a, o.ev, o.rn, []⟩ else o)
    else if (nth ns i).kind = 7 then rpO (fun a => mtc b len rs ns f ((nth ns i).subs.getD 0 0) a dp) f a
    else if (nth ns i).kind = 8 then
      match mtc b len rs ns f ((nth ns i).subs.getD 0 0) a dp with
      | none => none
      | some o => match o.to with
        | none => some ⟨none, o.ev, o.rn, []⟩
        | some t => (rpO (fun a => mtc b len rs ns f ((nth ns i).subs.getD 0 0) a dp) f t).map (fun p => ⟨p.to, o.ev ++ p.ev, o.rn + p.rn, o.tr ++ p.tr⟩)
    else (mtc b len rs ns f ((nth ns i).subs.getD 0 0) a dp).map (fun o => ⟨if o.to.isSome = decide ((nth ns i).kind = 9) then some a else none, o.ev, o.rn, []⟩)

theorem chO_mono {s s' : Nat → Option Ot} (h : ∀ j o, s j = some o → s' j = some o) : ∀ l o, chO s l = some o → chO s' l = some o
  | [], o, ho => ho
  | j :: l, o, ho => by
    rw [chO] at ho ⊢
    cases hj : s j with
    | none => rw [hj] at ho; cases ho
    | some p =>
      rw [hj] at ho
      rw [h j p hj]
      simp only at ho ⊢
      split
      · next hp => rw [if_pos hp] at ho; exact ho
      · next hp =>
        rw [if_neg hp] at ho
        cases hl : chO s l with
        | none => rw [hl] at ho; cases ho
        | some q => rw [hl] at ho; rw [chO_mono h l q hl]; exact ho
theorem sqO_mono {s s' : Nat → Nat → Option Ot} (h : ∀ j a o, s j a = some o → s' j a = some o) : ∀ l a o, sqO s l a = some o → sqO s' l a = some o
  | [], a, o, ho => ho
  | j :: l, a, o, ho => by
    rw [sqO] at ho ⊢
    cases hj : s j a with
    | none => rw [hj] at ho; cases ho
    | some p =>
      rw [hj] at ho
      rw [h j a p hj]
      simp only at ho ⊢
      cases hp : p.to with
      | none => rw [hp] at ho; exact ho
      | some t =>
        rw [hp] at ho
        simp only at ho ⊢
        cases hl : sqO s l t with
        | none => rw [hl] at ho; cases ho
        | some q => rw [hl] at ho; rw [sqO_mono h l t q hl]; exact ho
theorem rpO_mono {s s' : Nat → Option Ot} (h : ∀ a o, s a = some o → s' a = some o) : ∀ f g a o, f ≤ g → rpO s f a = some o → rpO s' g a = some o
  | 0, _, _, _, _, ho => by cases ho
  | f + 1, 0, _, _, hg, _ => absurd hg (by omega)
  | f + 1, g + 1, a, o, hg, ho => by
    rw [rpO] at ho ⊢
    cases hj : s a with
    | none => rw [hj] at ho; cases ho
    | some p =>
      rw [hj] at ho
      rw [h a p hj]
      simp only at ho ⊢
      cases hp : p.to with
      | none => rw [hp] at ho; exact ho
      | some t =>
        rw [hp] at ho
        simp only at ho ⊢
        cases hl : rpO s f t with
        | none => rw [hl] at ho; cases ho
        | some q => rw [hl] at ho; rw [rpO_mono h f g t q (by omega) hl]; exact ho
theorem map_some' {α β : Type} {x y : Option α} {g : α → β} {o : β} (h : x.map g = some o) (hx : ∀ p, x = some p → y = some p) : y.map g = some o := by
  cases hxx : x with
  | none => rw [hxx] at h; cases h
  | some p => rw [hxx] at h; rw [hx p hxx]; exact h
theorem mtc_mono {b : Nat → Nat} {len : Nat} {rs : List Rl} {ns : List Nd} : ∀ f i a dp o, mtc b len rs ns f i a dp = some o → mtc b len rs ns (f + 1) i a dp = some o
  | 0, _, _, _, _, h => by cases h
  | f + 1, i, a, dp, o, h => by
    have ih := mtc_mono (b := b) (len := len) (rs := rs) (ns := ns) f
    rw [mtc] at h ⊢
    split
    · next hk => rw [if_pos hk] at h; exact h
    next hk =>
    rw [if_neg hk] at h
    split
    · next hk => rw [if_pos hk] at h; exact map_some' h (fun p hp => ih _ _ _ p hp)
    next hk =>
    rw [if_neg hk] at h
    split
    · next hk => rw [if_pos hk] at h; exact chO_mono (fun j p hp => ih _ _ _ p hp) _ _ h
    next hk =>
    rw [if_neg hk] at h
    split
    · next hk => rw [if_pos hk] at h; exact sqO_mono (fun j a p hp => ih _ _ _ p hp) _ _ _ h
    next hk =>
    rw [if_neg hk] at h
    split
    · next hk => rw [if_pos hk] at h; exact map_some' h (fun p hp => ih _ _ _ p hp)
    next hk =>
    rw [if_neg hk] at h
    split
    · next hk => rw [if_pos hk] at h; exact rpO_mono (fun a p hp => ih _ _ _ p hp) f (f + 1) _ _ (by omega) h
    next hk =>
    rw [if_neg hk] at h
    split
    · next hk =>
      rw [if_pos hk] at h
      cases hx : mtc b len rs ns f ((nth ns i).subs.getD 0 0) a dp with
      | none => rw [hx] at h; cases h
      | some p =>
        rw [hx] at h
        rw [ih _ _ _ p hx]
        simp only at h ⊢
        cases hp : p.to with
        | none => rw [hp] at h; exact h
        | some t =>
          rw [hp] at h
          simp only at h ⊢
          exact map_some' h (fun q hq => rpO_mono (fun a p hp => ih _ _ _ p hp) f (f + 1) _ _ (by omega) hq)
    next hk =>
    rw [if_neg hk] at h
    exact map_some' h (fun p hp => ih _ _ _ p hp)
theorem mtc_more {b : Nat → Nat} {len : Nat} {rs : List Rl} {ns : List Nd} {f i a dp : Nat} {o : Ot} (h : mtc b len rs ns f i a dp = some o) : ∀ d, mtc b len rs ns (f + d) i a dp = some o
  | 0 => h
  | d + 1 => mtc_mono _ _ _ _ _ (mtc_more h d)
theorem mtc_le {b : Nat → Nat} {len : Nat} {rs : List Rl} {ns : List Nd} {f g i a dp : Nat} {o : Ot} (h : mtc b len rs ns f i a dp = some o) (hg : f ≤ g) : mtc b len rs ns g i a dp = some o := by
  have := mtc_more h (g - f)
  rwa [show f + (g - f) = g by omega] at this

theorem chO_at {s : Nat → Option Ot} {t : Nat} : ∀ l o, chO s l = some o → o.to = some t → ∃ j, j ∈ l ∧ ∃ p, s j = some p ∧ p.to = some t
  | [], o, h, ht => by
    rw [chO] at h
    have := Option.some.inj h
    subst this
    cases ht
  | j :: l, o, h, ht => by
    rw [chO] at h
    cases hj : s j with
    | none => rw [hj] at h; cases h
    | some p =>
      rw [hj] at h
      simp only at h
      split at h
      · have := Option.some.inj h
        subst this
        exact ⟨j, List.mem_cons_self .., p, hj, ht⟩
      · cases hl : chO s l with
        | none => rw [hl] at h; cases h
        | some q =>
          rw [hl] at h
          have := Option.some.inj h
          subst this
          obtain ⟨x, hx, p', h1, h2⟩ := chO_at l q hl ht
          exact ⟨x, List.mem_cons_of_mem _ hx, p', h1, h2⟩
theorem sqO_at {len : Nat} {e : Nat → Prop} {s : Nat → Nat → Option Ot} : ∀ l a o t, (∀ j ∈ l, ∀ a p t, a ≤ len → s j a = some p → p.to = some t → a ≤ t ∧ t ≤ len ∧ (t = a → e j)) → a ≤ len → sqO s l a = some o → o.to = some t → a ≤ t ∧ t ≤ len ∧ (t = a → ∀ j ∈ l, e j)
  | [], a, o, t, _, ha, h, ht => by
    rw [sqO] at h
    have := Option.some.inj h
    subst this
    have := Option.some.inj ht
    subst this
    exact ⟨Nat.le_refl _, ha, fun _ j hj => absurd hj (by simp)⟩
  | j :: l, a, o, t, hs, ha, h, ht => by
    rw [sqO] at h
    cases hj : s j a with
    | none => rw [hj] at h; cases h
    | some p =>
      rw [hj] at h
      simp only at h
      cases hp : p.to with
      | none =>
        rw [hp] at h
        have := Option.some.inj h
        subst this
        cases ht
      | some u =>
        rw [hp] at h
        simp only at h
        obtain ⟨h1, h2, h3⟩ := hs j (List.mem_cons_self ..) a p u ha hj hp
        cases hl : sqO s l u with
        | none => rw [hl] at h; cases h
        | some q =>
          rw [hl] at h
          have := Option.some.inj h
          subst this
          obtain ⟨k1, k2, k3⟩ := sqO_at l u q t (fun x hx => hs x (List.mem_cons_of_mem _ hx)) h2 hl ht
          refine ⟨by omega, k2, fun hta x hx => ?_⟩
          rcases List.mem_cons.1 hx with e' | e'
          · subst e'; exact h3 (by omega)
          · exact k3 (by omega) x e'
theorem rpO_at {len : Nat} {s : Nat → Option Ot} (hs : ∀ a p t, a ≤ len → s a = some p → p.to = some t → a ≤ t ∧ t ≤ len) : ∀ f a o, a ≤ len → rpO s f a = some o → ∃ t, o.to = some t ∧ a ≤ t ∧ t ≤ len
  | 0, _, _, _, h => by cases h
  | f + 1, a, o, ha, h => by
    rw [rpO] at h
    cases hj : s a with
    | none => rw [hj] at h; cases h
    | some p =>
      rw [hj] at h
      simp only at h
      cases hp : p.to with
      | none =>
        rw [hp] at h
        have := Option.some.inj h
        subst this
        exact ⟨a, rfl, Nat.le_refl _, ha⟩
      | some u =>
        rw [hp] at h
        simp only at h
        obtain ⟨h1, h2⟩ := hs a p u ha hj hp
        cases hl : rpO s f u with
        | none => rw [hl] at h; cases h
        | some q =>
          rw [hl] at h
          have := Option.some.inj h
          subst this
          obtain ⟨t, k1, k2, k3⟩ := rpO_at hs f u q h2 hl
          exact ⟨t, k1, by omega, k3⟩

theorem sub0 {ns : List Nd} (hW : Wf ns) {i : Nat} (hi : i < ns.length) (hk : 6 ≤ (nth ns i).kind) : (nth ns i).subs = [(nth ns i).subs.getD 0 0] ∧ (nth ns i).subs.getD 0 0 < i := by
  obtain ⟨x, hx⟩ := (nth_ok hW hi).one hk
  have := (nth_ok hW hi).low x (by rw [hx]; simp)
  rw [hx]
  exact ⟨rfl, this⟩

/-- What matches lies within the input; and what matches the empty stretch is empty by its form. -/
theorem mtc_at {b : Nat → Nat} {len : Nat} {rs : List Rl} {ns : List Nd} {S : Nat → Bool} (hW : WfR ns rs) (hN : ∀ N ∈ ns, N.kind = 3 → (fndI rs N.name).isSome = true) (hS : Lst rs ns S) : ∀ f i a dp o t, i < ns.length → a ≤ len → mtc b len rs ns f i a dp = some o → o.to = some t → a ≤ t ∧ t ≤ len ∧ (t = a → cE rs ns S ns.length i = true)
  | 0, _, _, _, _, _, _, _, h, _ => by cases h
  | f + 1, i, a, dp, o, t, hi, ha, h, ht => by
    have ih := mtc_at (b := b) (len := len) hW hN hS f
    have hlow := (nth_ok hW.wf hi).low
    have hkd := (nth_ok hW.wf hi).kind
    have hsub := fun hk => sub0 hW.wf hi hk
    rw [cE_eq hW.wf S hi]
    rw [mtc] at h
    split at h
    · next hk =>
      have := Option.some.inj h
      subst this
      have ht' : tmT b len (nth ns i) a = some t := ht
      unfold tmT at ht'
      split at ht'
      · next h0 =>
        split at ht'
        · next hl =>
          have := Option.some.inj ht'
          subst this
          unfold litB at hl
          rw [Bool.and_eq_true, decide_eq_true_eq] at hl
          refine ⟨by omega, hl.1, fun he => ?_⟩
          unfold eV
          rw [if_pos h0]
          have : (nth ns i).text.length = 0 := by omega
          rw [List.length_eq_zero_iff] at this
          rw [this]; rfl
        · cases ht'
      · split at ht'
        · next hc =>
          have := Option.some.inj ht'
          subst this
          exact ⟨by omega, by omega, fun he => absurd he (by omega)⟩
        · cases ht'
    next hk0 =>
    split at h
    · next hk =>
      cases hx : mtc b len rs ns f (isI rs (ruI rs (nth ns i))) a (dp + 1) with
      | none => rw [hx] at h; cases h
      | some p =>
        rw [hx] at h
        have := Option.some.inj h
        subst this
        have hr := ruI_lt hN hi hk
        obtain ⟨h1, h2, h3⟩ := ih _ a (dp + 1) p t (isI_lt hW hr) ha hx ht
        refine ⟨h1, h2, fun he => ?_⟩
        unfold eV
        rw [if_neg (by omega), if_pos hk, hS.fix _ hr]
        exact h3 he
    next hk1 =>
    split at h
    · next hk =>
      obtain ⟨j, hj, p, hp, hpt⟩ := chO_at _ _ h ht
      obtain ⟨h1, h2, h3⟩ := ih j a dp p t (by have := hlow j hj; omega) ha hp hpt
      refine ⟨h1, h2, fun he => ?_⟩
      unfold eV
      rw [if_neg (by omega), if_neg (by omega), if_neg (by omega), if_pos (.inl hk)]
      exact List.any_eq_true.2 ⟨j, hj, h3 he⟩
    next hk2 =>
    split at h
    · next hk =>
      obtain ⟨h1, h2, h3⟩ := sqO_at (len := len) (e := fun j => cE rs ns S ns.length j = true) _ a o t (fun j hj a p t ha hp hpt => ih j a dp p t (by have := hlow j hj; omega) ha hp hpt) ha h ht
      refine ⟨h1, h2, fun he => ?_⟩
      unfold eV
      rw [if_neg (by omega), if_neg (by omega), if_neg (by omega), if_neg (by omega), if_pos hk]
      exact List.all_eq_true.2 (h3 he)
    next hk3 =>
    split at h
    · next hk =>
      obtain ⟨hs1, hs2⟩ := hsub (by omega)
      have hE : eV (nth ns i) (S (ruI rs (nth ns i))) (cE rs ns S ns.length) = true := by
        unfold eV; rw [if_neg (by omega), if_neg (by omega), if_pos (by omega)]
      cases hx : mtc b len rs ns f ((nth ns i).subs.getD 0 0) a dp with
      | none => rw [hx] at h; cases h
      | some p =>
        rw [hx] at h
        have := Option.some.inj h
        subst this
        cases hp : p.to with
        | none =>
          simp [hp] at ht
          subst ht
          exact ⟨Nat.le_refl _, ha, fun _ => hE⟩
        | some u =>
          simp [hp] at ht
          subst ht
          obtain ⟨h1, h2, h3⟩ := ih _ a dp p u (by omega) ha hx hp
          exact ⟨h1, h2, fun _ => hE⟩
    next hk4 =>
    split at h
    · next hk =>
      obtain ⟨hs1, hs2⟩ := hsub (by omega)
      have hE : eV (nth ns i) (S (ruI rs (nth ns i))) (cE rs ns S ns.length) = true := by
        unfold eV; rw [if_neg (by omega), if_neg (by omega), if_pos (by omega)]
      obtain ⟨u, k1, k2, k3⟩ := rpO_at (len := len) (fun a p t ha hp hpt => by
        obtain ⟨h1, h2, _⟩ := ih _ a dp p t (by omega) ha hp hpt
        exact ⟨h1, h2⟩) f a o ha h
      rw [k1] at ht
      have := Option.some.inj ht
      subst this
      exact ⟨k2, k3, fun _ => hE⟩
    next hk5 =>
    split at h
    · next hk =>
      obtain ⟨hs1, hs2⟩ := hsub (by omega)
      cases hx : mtc b len rs ns f ((nth ns i).subs.getD 0 0) a dp with
      | none => rw [hx] at h; cases h
      | some p =>
        rw [hx] at h
        simp only at h
        cases hp : p.to with
        | none =>
          rw [hp] at h
          have := Option.some.inj h
          subst this
          cases ht
        | some u =>
          rw [hp] at h
          simp only at h
          obtain ⟨h1, h2, h3⟩ := ih _ a dp p u (by omega) ha hx hp
          cases hl : rpO (fun a => mtc b len rs ns f ((nth ns i).subs.getD 0 0) a dp) f u with
          | none => rw [hl] at h; cases h
          | some q =>
            rw [hl] at h
            have := Option.some.inj h
            subst this
            obtain ⟨v, k1, k2, k3⟩ := rpO_at (len := len) (fun a p t ha hp hpt => by
              obtain ⟨h1, h2, _⟩ := ih _ a dp p t (by omega) ha hp hpt
              exact ⟨h1, h2⟩) f u q h2 hl
            have ht' : q.to = some t := ht
            rw [k1] at ht'
            have := Option.some.inj ht'
            subst this
            refine ⟨by omega, k3, fun he => ?_⟩
            unfold eV
            rw [if_neg (by omega), if_neg (by omega), if_neg (by omega), if_pos (.inr hk), hs1]
            simp only [List.any_cons, List.any_nil, Bool.or_false, List.getD_cons_zero]
            exact h3 (by omega)
    next hk6 =>
    obtain ⟨hs1, hs2⟩ := hsub (by omega)
    have hE : eV (nth ns i) (S (ruI rs (nth ns i))) (cE rs ns S ns.length) = true := by
      unfold eV; rw [if_neg (by omega), if_neg (by omega), if_pos (by omega)]
    cases hx : mtc b len rs ns f ((nth ns i).subs.getD 0 0) a dp with
    | none => rw [hx] at h; cases h
    | some p =>
      rw [hx] at h
      have := Option.some.inj h
      subst this
      have ht' : (if p.to.isSome = decide ((nth ns i).kind = 9) then some a else none) = some t := ht
      split at ht'
      · have := Option.some.inj ht'
        subst this
        exact ⟨Nat.le_refl _, ha, fun _ => hE⟩
      · cases ht'

/-! It ends: no rule comes to itself at the same place, and nothing empty is repeated. -/
def Dn (b : Nat → Nat) (len : Nat) (rs : List Rl) (ns : List Nd) (i a : Nat) : Prop := ∀ dp, ∃ f o, mtc b len rs ns f i a dp = some o

theorem chO_tot {b : Nat → Nat} {len : Nat} {rs : List Rl} {ns : List Nd} {a dp : Nat} : ∀ l, (∀ j ∈ l, ∃ f o, mtc b len rs ns f j a dp = some o) → ∃ f o, chO (fun j => mtc b len rs ns f j a dp) l = some o
  | [], _ => ⟨0, _, rfl⟩
  | j :: l, h => by
    obtain ⟨f1, o1, h1⟩ := h j (List.mem_cons_self ..)
    obtain ⟨f2, o2, h2⟩ := chO_tot l (fun x hx => h x (List.mem_cons_of_mem _ hx))
    refine ⟨f1 + f2, ?_⟩
    rw [chO, mtc_le h1 (by omega)]
    simp only
    split
    · exact ⟨_, rfl⟩
    · rw [chO_mono (fun j o ho => mtc_le ho (by omega)) l o2 h2]
      exact ⟨_, rfl⟩
theorem sqO_tot {b : Nat → Nat} {len : Nat} {rs : List Rl} {ns : List Nd} {dp : Nat} (G : Nat → List Nat → Prop) (hG : ∀ a j l, G a (j :: l) → (∃ f o, mtc b len rs ns f j a dp = some o) ∧ ∀ f o t, mtc b len rs ns f j a dp = some o → o.to = some t → G t l) : ∀ l a, G a l → ∃ f o, sqO (fun j a => mtc b len rs ns f j a dp) l a = some o
  | [], a, _ => ⟨0, _, rfl⟩
  | j :: l, a, h => by
    obtain ⟨⟨f1, o1, h1⟩, h2⟩ := hG a j l h
    cases ho : o1.to with
    | none =>
      refine ⟨f1, ?_⟩
      rw [sqO, h1]
      simp only [ho]
      exact ⟨_, rfl⟩
    | some t =>
      obtain ⟨f2, o2, h3⟩ := sqO_tot G hG l t (h2 f1 o1 t h1 ho)
      refine ⟨f1 + f2, ?_⟩
      rw [sqO, mtc_le h1 (by omega)]
      simp only [ho]
      rw [sqO_mono (fun j a o ho => mtc_le ho (by omega)) l t o2 h3]
      exact ⟨_, rfl⟩
/-- A repetition ends: each time a byte goes. -/
theorem rpO_tot {b : Nat → Nat} {len : Nat} {rs : List Rl} {ns : List Nd} {x dp : Nat} (hp : ∀ f a o t, a ≤ len → mtc b len rs ns f x a dp = some o → o.to = some t → a < t ∧ t ≤ len) : ∀ n a, len - a ≤ n → a ≤ len → (∀ a', a ≤ a' → a' ≤ len → ∃ f o, mtc b len rs ns f x a' dp = some o) → ∃ f o, rpO (fun a => mtc b len rs ns f x a dp) f a = some o := by
  intro n
  induction n with
  | zero =>
    intro a hn ha h
    obtain ⟨f, o, ho⟩ := h a (Nat.le_refl _) ha
    refine ⟨f + 1, ?_⟩
    rw [rpO, mtc_mono _ _ _ _ _ ho]
    simp only
    cases hto : o.to with
    | none => exact ⟨_, rfl⟩
    | some t => have := hp f a o t ha ho hto; omega
  | succ n ih =>
    intro a hn ha h
    obtain ⟨f, o, ho⟩ := h a (Nat.le_refl _) ha
    cases hto : o.to with
    | none =>
      refine ⟨f + 1, ?_⟩
      rw [rpO, mtc_mono _ _ _ _ _ ho]
      simp only [hto]
      exact ⟨_, rfl⟩
    | some t =>
      obtain ⟨h1, h2⟩ := hp f a o t ha ho hto
      obtain ⟨g, q, hq⟩ := ih t (by omega) h2 (fun a' h3 h4 => h a' (by omega) h4)
      refine ⟨f + g + 1, ?_⟩
      rw [rpO, mtc_le ho (by omega)]
      simp only [hto]
      rw [rpO_mono (fun a o ho => mtc_le ho (by omega)) g (f + g) t q (by omega) hq]
      exact ⟨_, rfl⟩

theorem any_congr' {l : List Nat} {f g : Nat → Bool} (h : ∀ j ∈ l, f j = g j) : l.any f = l.any g := by
  rw [Bool.eq_iff_iff, List.any_eq_true, List.any_eq_true]
  exact ⟨fun ⟨j, hj, x⟩ => ⟨j, hj, by rw [← h j hj]; exact x⟩, fun ⟨j, hj, x⟩ => ⟨j, hj, by rw [h j hj]; exact x⟩⟩
theorem rE_fuel {rs : List Rl} {ns : List Nd} (hW : Wf ns) (S : Nat → Bool) : ∀ f g i, i < ns.length → i < f → i < g → rE rs ns S f i = rE rs ns S g i
  | 0, _, _, _, h, _ => absurd h (by omega)
  | _, 0, _, _, _, h => absurd h (by omega)
  | f + 1, g + 1, i, hi, hf, hg => by
    rw [rE, rE]
    refine any_congr' (fun j hj => ?_)
    have := (nth_ok hW hi).low j hj
    rw [rE_fuel hW S f g j (by omega) (by omega) (by omega)]
theorem rE_sub {rs : List Rl} {ns : List Nd} (hW : Wf ns) {S : Nat → Bool} {i j : Nat} (hi : i < ns.length) (h : rE rs ns S ns.length i = false) (hj : j ∈ (nth ns i).subs) : rE rs ns S ns.length j = false ∧ ((nth ns i).kind = 7 ∨ (nth ns i).kind = 8 → cE rs ns S ns.length j = false) := by
  have hlow := (nth_ok hW hi).low j hj
  rw [rE_fuel hW S ns.length (ns.length + 1) i hi hi (by omega), rE, List.any_eq_false] at h
  have h1 := h j hj
  simp only [Bool.or_eq_true, Bool.and_eq_true, not_or, not_and, decide_eq_true_eq] at h1
  refine ⟨by simpa using h1.2, fun hk => by simpa using h1.1 hk⟩
theorem Bg.lt {rs : List Rl} {ns : List Nd} {S : Nat → Bool} (hW : Wf ns) (hN : ∀ N ∈ ns, N.kind = 3 → (fndI rs N.name).isSome = true) {i r : Nat} (h : Bg rs ns S i r) : i < ns.length → r < rs.length := by
  induction h with
  | name hk => exact fun hi => ruI_lt hN hi hk
  | @sub i j r hj hk hb ih => exact fun hi => ih (by have := (nth_ok hW hi).low j hj; omega)
  | @item i j r l m he hk hl hb ih => exact fun hi => ih (by have := (nth_ok hW hi).low j (by rw [he]; simp); omega)

/-- A grammar that ends. -/
structure Ended (rs : List Rl) (ns : List Nd) (S : Nat → Bool) : Prop where
  wf : WfR ns rs
  nm : ∀ N ∈ ns, N.kind = 3 → (fndI rs N.name).isSome = true
  ls : Lst rs ns S
  no : ∀ r, r < rs.length → cEnd rs ns S r = false

theorem Ended.rank {rs : List Rl} {ns : List Nd} {S : Nat → Bool} (h : Ended rs ns S) {r r' : Nat} (hr : r < rs.length) (hb : Bg rs ns S (isI rs r) r') : rnk (m0 rs ns S) r' < rnk (m0 rs ns S) r := by
  have hl := h.wf.len
  have hi := isI_lt h.wf hr
  have hr' := hb.lt h.wf.wf h.nm hi
  have h1 := hb.told h.wf.wf ns.length (List.replicate 8 false) hi hi (by simp; omega)
  have h2 := h.no r' hr'
  unfold cEnd at h2
  rw [Bool.or_eq_false_iff] at h2
  refine rnk_lt (by omega) (by omega) ?_ h2.1
  unfold m0
  rw [decide_eq_true hr, Bool.true_and]
  exact h1

theorem mtc_total {b : Nat → Nat} {len : Nat} {rs : List Rl} {ns : List Nd} {S : Nat → Bool} (h : Ended rs ns S) : ∀ n a, len - a = n → a ≤ len → ∀ q i, i < ns.length → rE rs ns S ns.length i = false → (∀ r, Bg rs ns S i r → rnk (m0 rs ns S) r < q) → Dn b len rs ns i a := by
  intro n
  induction n using Nat.strongRecOn with
  | ind n ihn =>
  intro a hn ha q
  induction q using Nat.strongRecOn with
  | ind q ihq =>
  intro i
  induction i using Nat.strongRecOn with
  | ind i ihi =>
  intro hi hre hbg dp
  have hlow := (nth_ok h.wf.wf hi).low
  have hkd := (nth_ok h.wf.wf hi).kind
  have hsub := fun hk => sub0 h.wf.wf hi hk
  have far : ∀ a' j, a < a' → a' ≤ len → j ∈ (nth ns i).subs → Dn b len rs ns j a' := fun a' j h1 h2 hj =>
    ihn (len - a') (by omega) a' rfl h2 9 j (by have := hlow j hj; omega) (rE_sub h.wf.wf hi hre hj).1 (fun r _ => by have := rnk_le (m0 rs ns S) r; omega)
  have near : ∀ j, j ∈ (nth ns i).subs → (nth ns i).kind ≠ 5 → Dn b len rs ns j a := fun j hj hk =>
    ihi j (hlow j hj) (by have := hlow j hj; omega) (rE_sub h.wf.wf hi hre hj).1 (fun r hb => hbg r (Bg.sub hj hk hb))
  by_cases hk2 : (nth ns i).kind ≤ 2
  · exact ⟨1, _, by rw [mtc, if_pos hk2]⟩
  by_cases hk3 : (nth ns i).kind = 3
  · have hr := ruI_lt h.nm hi hk3
    have h1 := hbg _ (Bg.name hk3)
    have h2 := h.no _ hr
    unfold cEnd at h2
    rw [Bool.or_eq_false_iff] at h2
    obtain ⟨f, o, ho⟩ := ihq _ h1 (isI rs (ruI rs (nth ns i))) (isI_lt h.wf hr) h2.2 (fun r hb => h.rank hr hb) (dp + 1)
    refine ⟨f + 1, ?_⟩
    rw [mtc, if_neg hk2, if_pos hk3, ho]
    exact ⟨_, rfl⟩
  by_cases hk4 : (nth ns i).kind = 4
  · obtain ⟨f, o, ho⟩ := chO_tot (b := b) (len := len) (rs := rs) (ns := ns) (a := a) (dp := dp) (nth ns i).subs (fun j hj => near j hj (by omega) dp)
    exact ⟨f + 1, o, by rw [mtc, if_neg hk2, if_neg hk3, if_pos hk4]; exact ho⟩
  by_cases hk5 : (nth ns i).kind = 5
  · obtain ⟨f, o, ho⟩ := sqO_tot (b := b) (len := len) (rs := rs) (ns := ns) (dp := dp) (fun a' l => a' ≤ len ∧ a ≤ a' ∧ ∃ pre, (nth ns i).subs = pre ++ l ∧ (a' = a → ∀ x ∈ pre, cE rs ns S ns.length x = true)) (fun a' j l hG => by
        obtain ⟨h1, h2, pre, h3, h4⟩ := hG
        have hj : j ∈ (nth ns i).subs := by rw [h3]; simp
        have hjl := hlow j hj
        refine ⟨?_, fun f o t ho ht => ?_⟩
        · by_cases he : a' = a
          · subst he
            exact ihi j hjl (by omega) (rE_sub h.wf.wf hi hre hj).1 (fun r hb => hbg r (Bg.item h3 hk5 (h4 rfl) hb)) dp
          · exact far a' j (by omega) h1 hj dp
        · obtain ⟨k1, k2, k3⟩ := mtc_at h.wf h.nm h.ls f j a' dp o t (by omega) h1 ho ht
          refine ⟨k2, by omega, pre ++ [j], by rw [h3]; simp, fun he x hx => ?_⟩
          rcases List.mem_append.1 hx with e | e
          · exact h4 (by omega) x e
          · rw [List.mem_singleton.1 e]; exact k3 (by omega)) (nth ns i).subs a ⟨ha, Nat.le_refl _, [], by simp, fun _ x hx => absurd hx (by simp)⟩
    exact ⟨f + 1, o, by rw [mtc, if_neg hk2, if_neg hk3, if_neg hk4, if_pos hk5]; exact ho⟩
  obtain ⟨hs1, hs2⟩ := hsub (by omega)
  have hx0 : (nth ns i).subs.getD 0 0 ∈ (nth ns i).subs := by rw [hs1]; simp
  obtain ⟨f0, o0, ho0⟩ := near _ hx0 hk5 dp
  by_cases hk6 : (nth ns i).kind = 6
  · refine ⟨f0 + 1, ?_⟩
    rw [mtc, if_neg hk2, if_neg hk3, if_neg hk4, if_neg hk5, if_pos hk6, ho0]
    exact ⟨_, rfl⟩
  by_cases hk78 : (nth ns i).kind = 7 ∨ (nth ns i).kind = 8
  · have hne := (rE_sub h.wf.wf hi hre hx0).2 hk78
    have hp : ∀ f a o t, a ≤ len → mtc b len rs ns f ((nth ns i).subs.getD 0 0) a dp = some o → o.to = some t → a < t ∧ t ≤ len := fun f a o t ha ho ht => by
      obtain ⟨k1, k2, k3⟩ := mtc_at h.wf h.nm h.ls f _ a dp o t (by omega) ha ho ht
      refine ⟨?_, k2⟩
      rcases Nat.lt_or_eq_of_le k1 with e | e
      · exact e
      · rw [k3 e.symm] at hne; cases hne
    have hall : ∀ a', a ≤ a' → a' ≤ len → ∃ f o, mtc b len rs ns f ((nth ns i).subs.getD 0 0) a' dp = some o := fun a' h1 h2 => by
      by_cases he : a' = a
      · subst he; exact ⟨f0, o0, ho0⟩
      · exact far a' _ (by omega) h2 hx0 dp
    by_cases hk7 : (nth ns i).kind = 7
    · obtain ⟨f, o, ho⟩ := rpO_tot hp (len - a) a (Nat.le_refl _) ha hall
      exact ⟨f + 1, o, by rw [mtc, if_neg hk2, if_neg hk3, if_neg hk4, if_neg hk5, if_neg hk6, if_pos hk7]; exact ho⟩
    · have hk8 : (nth ns i).kind = 8 := by omega
      cases hto : o0.to with
      | none =>
        refine ⟨f0 + 1, ?_⟩
        rw [mtc, if_neg hk2, if_neg hk3, if_neg hk4, if_neg hk5, if_neg hk6, if_neg hk7, if_pos hk8, ho0]
        simp only [hto]
        exact ⟨_, rfl⟩
      | some t =>
        obtain ⟨h1, h2⟩ := hp f0 a o0 t ha ho0 hto
        obtain ⟨g, p, hgp⟩ := rpO_tot hp (len - t) t (Nat.le_refl _) h2 (fun a' h3 h4 => hall a' (by omega) h4)
        refine ⟨f0 + g + 1, ?_⟩
        rw [mtc, if_neg hk2, if_neg hk3, if_neg hk4, if_neg hk5, if_neg hk6, if_neg hk7, if_pos hk8, mtc_le ho0 (by omega)]
        simp only [hto]
        rw [rpO_mono (fun a o ho => mtc_le ho (by omega)) g (f0 + g) t p (by omega) hgp]
        exact ⟨_, rfl⟩
  · refine ⟨f0 + 1, ?_⟩
    rw [mtc, if_neg hk2, if_neg hk3, if_neg hk4, if_neg hk5, if_neg hk6, if_neg (by omega), if_neg (by omega), ho0]
    exact ⟨_, rfl⟩

/-- Every run of a rule ends. -/
theorem run_total {b : Nat → Nat} {len : Nat} {rs : List Rl} {ns : List Nd} {S : Nat → Bool} (h : Ended rs ns S) {r a : Nat} (hr : r < rs.length) (ha : a ≤ len) (dp : Nat) : ∃ f o, mtc b len rs ns f (isI rs r) a dp = some o := by
  have h2 := h.no r hr
  unfold cEnd at h2
  rw [Bool.or_eq_false_iff] at h2
  exact mtc_total h (len - a) a rfl ha 9 (isI rs r) (isI_lt h.wf hr) h2.2 (fun r' _ => by have := rnk_le (m0 rs ns S) r'; omega) dp

end Go.Proofs.YtagklnaaoclmhaaGreatDoor
