import Derived.Test.YtagklnaaoclmhaaGreatDoorKnBM
import Derived.Test.YtagklnaaoclmhaaGreatDoorMgAV
set_option linter.unusedSimpArgs false
set_option linter.unusedVariables false
namespace Go.Proofs.YtagklnaaoclmhaaGreatDoor
open Go.RowKit

/-- What an answer says. -/
structure Pd where
  B : Bool
  T : Int
  F : Int
  nt : Nat
  nf : Nat
  tc : Nat → Int
  fc : Nat → Int
  er : Int
def iV : Value → Int
  | .int _ n => n
  | _ => 0
def noneD (er : Int) : Pd := ⟨false, 0, 0, 0, 0, fun _ => 0, fun _ => 0, er⟩
def okD (o : Ot) : Pd := ⟨decide (toI o.to ≠ -1), if toI o.to = -1 then 0 else toI o.to, (fAll o.ev).1, (if toI o.to = -1 then [] else (runO 0 0 0 o).tr.map nI).length, (btL (fAll o.ev).2).length,
  fun k => iV (((if toI o.to = -1 then [] else (runO 0 0 0 o).tr.map nI).flatMap nodC).getD k undef), fun k => iV (((btL (fAll o.ev).2).map i64V).getD k undef), 0⟩
theorem nodC_len (L : List NoI) : (L.flatMap nodC).length = L.length * 4 := by
  induction L with
  | nil => rfl
  | cons x L ih => rw [List.flatMap_cons, List.length_append, ih]; simp [nodC]; omega
theorem nodC_int (L : List NoI) : ∀ v ∈ L.flatMap nodC, v = .int .i64 (iV v) := by
  intro v hv
  obtain ⟨x, _, h⟩ := List.mem_flatMap.1 hv
  simp only [nodC, List.mem_cons, List.not_mem_nil, or_false] at h
  rcases h with rfl | rfl | rfl | rfl <;> rfl
theorem btL_len (m : Nat) : (btL m).length ≤ 64 := by
  unfold btL
  exact Nat.le_trans (List.length_filter_le _ _) (by simp)
/-- A row of numbers, read at every place. -/
theorem row_get {w : World} {base e size n : Nat} {p : Option Addr} {ln c : Nat} {xs : List Value} (h : w.ownsRow base e size (.slice p ln c) n xs) (hx : xs.length = n * size) (hi : ∀ v ∈ xs, v = .int .i64 (iV v)) (hs : 0 < size) : ln = n ∧ ∀ k, k < n * size → ∃ b, p = some ⟨b, 0, none⟩ ∧ w.cell? ⟨b, k, none⟩ = some (.int .i64 (iV (xs.getD k undef))) := by
  obtain ⟨p2, c2, hv⟩ := ownsRow_form h
  have hl : ln = n := by cases hv; rfl
  refine ⟨hl, fun k hk => ?_⟩
  have hn : n ≠ 0 := fun e => by rw [e] at hk; simp at hk
  obtain ⟨g, cap, hv2, _, _⟩ := h.form (Nat.pos_of_ne_zero hn)
  rw [hv2] at h
  have hp : p = some ⟨g, 0, none⟩ := by cases hv2; rfl
  refine ⟨g, hp, ?_⟩
  rw [h.cellAt k hk]
  have hk2 : k < xs.length := by omega
  rw [List.getD_eq_getElem?_getD, List.getElem?_eq_getElem hk2]
  exact congrArg some (hi _ (List.getElem_mem hk2))
theorem AnsX.ana {w : World} {base : Nat} {o : Ot} {B : Bool} {T : Int} {tp fp : Option Addr} {tn tc fn fc : Nat} (h : AnsX w base (toI o.to) ((runO 0 0 0 o).tr.map nI) (fAll o.ev).2 B T (.slice tp tn tc) (.slice fp fn fc)) (hl : (runO 0 0 0 o).tr.length ≤ 100000) :
    AnA w (.agg #[.bool B, .int .i64 T, .slice tp tn tc, .int .i64 (fAll o.ev).1, .slice fp fn fc]) (okD o).B (okD o).T (okD o).F (okD o).nt (okD o).nf (okD o).tc (okD o).fc := by
  obtain ⟨h1, h2⟩ := row_get h.tr (nodC_len _) (nodC_int _) (by decide)
  obtain ⟨h3, h4⟩ := row_get h.fl (by simp) (fun v hv => by obtain ⟨x, _, rfl⟩ := List.mem_map.1 hv; rfl) (by decide)
  refine ⟨⟨tp, tc, fp, fc, ?_, h2, fun k hk => h4 k (by rw [Nat.mul_one]; exact hk)⟩, ?_, ?_⟩
  · rw [h.b, h.t, h1, h3]; rfl
  · show (if toI o.to = -1 then [] else (runO 0 0 0 o).tr.map nI).length ≤ 100000
    split
    · simp
    · rw [List.length_map]; exact hl
  · have := btL_len (fAll o.ev).2
    show (btL (fAll o.ev).2).length ≤ 100000
    omega
theorem AnA.zero {w : World} {tc fc : Nat → Int} : AnA w zAns false 0 0 0 0 tc fc :=
  ⟨⟨_, _, _, _, rfl, fun k hk => absurd hk (by omega), fun k hk => absurd hk (by omega)⟩, by omega, by omega⟩
structure PdOut (D : Pd) (G : ByteArray) (c : Cf) (pb base : Nat) (w : World) (e : Ending) (w' : World) : Prop where
  res : ∃ v, e = .returned (.tuple #[v, .int .i64 D.er]) ∧ AnA w' v D.B D.T D.F D.nt D.nf D.tc D.fc
  ps : ∃ L h d, L ≤ c.bud ∧ Psr w' pb G c base L L h d
  kept : Kept (fun k => k = pb) w w'
/-- A parse: whatever the memory, the same. -/
theorem parse_d {G s : ByteArray} (hG : refChk G = (0, 0)) (hm : s.size ≤ maxLen) (R : Nat) (hR : R ≤ 20000) : ∃ D : Pd, ∀ (w : World) (pb : Nat) (c : Cf) (base a b d e : Nat), Psr w pb G c base a b d e → c.runs = R → Tab w →
    Calls Tryz.prog 19 #[.pointer (some ⟨pb, 0, none⟩), .string s] w fun e' w' => PdOut D G c pb base w e' w' := by
  by_cases hs : 60 < s.size
  · refine ⟨noneD 1, fun w pb c base a b d e h hc hT => ?_⟩
    refine (parse_long h hT hs hm).mono ?_
    rintro e' w' ⟨h1, h2, h3⟩
    exact ⟨⟨_, h1, AnA.zero⟩, ⟨0, 0, 0, Nat.zero_le _, h2⟩, h3⟩
  · obtain ⟨h400, hbad, S, hE⟩ := ended_of hG
    obtain ⟨f, o, hf⟩ := run_total (b := byteAt s) (len := s.size) hE (rules_pos hG) (Nat.zero_le _) 1
    have htr := mtc_tr _ _ _ _ _ hf
    by_cases hr : o.rn + 1 ≤ R
    · refine ⟨okD o, fun w pb c base a b d e h hc hT => ?_⟩
      refine (parse_any h hT (by omega) hf).mono ?_
      intro e' w' hZ
      obtain ⟨B, T, tp, fp, tn, tc, fn, fc, he, hA, br, n, t, s', r, hW, hbd, hP2⟩ := hZ.ok (by omega)
      refine ⟨⟨_, he, hA.ana ?_⟩, ⟨_, _, _, hbd, hP2⟩, hZ.kept⟩
      unfold runO
      cases o.to with
      | none => simp
      | some t => simp; omega
    · refine ⟨noneD 6, fun w pb c base a b d e h hc hT => ?_⟩
      refine (parse_any h hT (by omega) hf).mono ?_
      intro e' w' hZ
      obtain ⟨h1, h2⟩ := hZ.spent (by omega)
      exact ⟨⟨_, h1, AnA.zero⟩, ⟨0, 0, 0, Nat.zero_le _, h2⟩, hZ.kept⟩
theorem Psr.ne0 {w : World} {pb base a b d e : Nat} {G : ByteArray} {c : Cf} (h : Psr w pb G c base a b d e) (hT : Tab w) : ¬ 0 = pb := by
  obtain ⟨gb, bg, rv, P, ρ, hb, _, _⟩ := h.ex
  exact tab_ne hT hb
theorem Psr.lt {w : World} {pb base a b d e : Nat} {G : ByteArray} {c : Cf} (h : Psr w pb G c base a b d e) : pb < w.heap.size := by
  obtain ⟨gb, bg, rv, P, ρ, hb, _, _⟩ := h.ex
  exact objAt_lt (show objAt w pb = _ from hb)
theorem Psr.other {w w' : World} {pb pb' base base' a b d e a' b' d' e' : Nat} {G G' : ByteArray} {c c' : Cf} (h : Psr w pb G c base a b d e) (h' : Psr w pb' G' c' base' a' b' d' e') (hne : pb ≠ pb') (hk : Kept (fun k => k = pb') w w') : Psr w' pb G c base a b d e := by
  obtain ⟨gb, bg, rv, P, ρ, hb, _, _⟩ := h'.ex
  refine h.kept hk (fun j cs t e' hj => ?_) (fun e => hne e)
  have e2 : j = pb' := e'
  rw [e2, hb] at hj
  simp at hj
  rw [← hj.2]; decide
theorem AnA.other {w w' : World} {v : Value} {B : Bool} {T F : Int} {nt nf : Nat} {tc fc : Nat → Int} {pb base a b d e : Nat} {G : ByteArray} {c : Cf} (h : AnA w v B T F nt nf tc fc) (hp : Psr w pb G c base a b d e) (hk : Kept (fun k => k = pb) w w') : AnA w' v B T F nt nf tc fc := by
  obtain ⟨gb, bg, rv, P, ρ, hb, _, _⟩ := hp.ex
  have hne : ∀ x n, w.cell? ⟨x, 0, none⟩ = some (.int .i64 n) → ¬ x = pb := fun x n h1 e => by
    have h2 := (cells9 hb).1.1
    rw [← e, h1] at h2
    simp [ptB'] at h2
  obtain ⟨tp, tk, fp, fk, h1, h2, h3⟩ := h.ex
  refine ⟨⟨tp, tk, fp, fk, h1, fun k hk' => ?_, fun k hk' => ?_⟩, h.le⟩
  · obtain ⟨x, h4, h5⟩ := h2 k hk'
    obtain ⟨x', h6, h7⟩ := h2 0 (by omega)
    rw [h4] at h6; cases h6
    exact ⟨x, h4, (hk.cell (p := ⟨x, k, none⟩) (lt_cell h5) (hne _ _ h7)).trans h5⟩
  · obtain ⟨x, h4, h5⟩ := h3 k hk'
    obtain ⟨x', h6, h7⟩ := h3 0 (by omega)
    rw [h4] at h6; cases h6
    exact ⟨x, h4, (hk.cell (p := ⟨x, k, none⟩) (lt_cell h5) (hne _ _ h7)).trans h5⟩
theorem cells4 {w : World} {q t : Nat} {a b c d : Value} (h : w.heap[q]? = some (.cells #[a, b, c, d] t (0, 0))) : w.cell? ⟨q, 0, none⟩ = some a ∧ w.cell? ⟨q, 1, none⟩ = some b ∧ w.cell? ⟨q, 2, none⟩ = some c ∧ w.cell? ⟨q, 3, none⟩ = some d := by
  refine ⟨?_, ?_, ?_, ?_⟩ <;> simp [World.cell?, h]
/-- A block that lasts. -/
theorem Kept.blk {S : Nat → Prop} {w w' : World} (hk : Kept S w w') {q : Nat} {o : Obj} (h : w.heap[q]? = some o) (hs : ¬ S q) : w'.heap[q]? = some o :=
  (hk.block q (objAt_lt (show objAt w q = _ from h)) hs).trans h
end Go.Proofs.YtagklnaaoclmhaaGreatDoor
