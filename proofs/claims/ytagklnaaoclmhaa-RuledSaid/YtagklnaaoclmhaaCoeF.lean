import Derived.Test.YtagklnaaoclmhaaCoeE
set_option linter.unusedSimpArgs false
set_option linter.unusedVariables false
namespace Go.Proofs.Ytagklnaaoclmhaa
open Go.RowKit

/-- What the code's Read leaves. -/
structure RdOut (s : ByteArray) (w : World) (C : Int × Int) (e : Ending) (w' : World) : Prop where
  kept : Kept (fun _ => False) w w'
  bad : C.1 ≠ 0 → e = .returned (.tuple #[.pointer none, .int .i64 C.1, .int .i64 C.2])
  ok : C.1 = 0 → ∃ gb, e = .returned (.tuple #[.pointer (some ⟨gb, 0, none⟩), .int .i64 C.1, .int .i64 C.2]) ∧ ∃ base rv P ρ, w.heap.size ≤ base ∧ Gm w' base gb rv P ρ (read s).2 (read s).1.ns

theorem cells6 {w : World} {k t : Nat} {a b c d e f : Value} (h : w.heap[k]? = some (.cells #[a, b, c, d, e, f] t)) : w.cell? ⟨k, 1, none⟩ = some b ∧ w.cell? ⟨k, 5, none⟩ = some f := by
  refine ⟨?_, ?_⟩ <;> simp [World.cell?, h]

theorem cs_new {mv' : Value} {w w2 : World} {o : Obj} (h : Cs w.heap.size (.slice none 0 0) mv' (w.alloc o) w2) : Kept (fun _ => False) w w2 :=
  ⟨h.kept.os, h.kept.tape, h.kept.output, by have := h.kept.size; simp at this; omega, fun k hk _ => by
    rw [h.kept.block k (by simp; omega) (fun x => by
      rcases x with x | x
      · omega
      · simp [Value.ownBlock] at x)]
    exact Below.heap_alloc _ _ _ hk⟩

theorem cr_first (s : ByteArray) (w : World) : CR (w.alloc (.cells #[.string s, .int .i64 0, .int .i64 0, .int .i64 0, .int .i64 0, .slice none 0 0] 47)) w.heap.size w.heap.size s (.slice none 0 0) (fun _ => False) [] [] ⟨⟨0, -1, 0, 0⟩, []⟩ :=
  ⟨⟨0, heap_alloc_new _ _⟩, World.ownsRow_nil _ _ _ _, by simp [Value.ownBlock], ⟨rfl, fun i h => absurd h (by simp), fun i h => absurd h (by simp), List.nodup_nil, fun x hx => absurd hx (by simp)⟩, fun _ h => h.elim, fun m hm => absurd hm (by simp), Nat.le_refl _, by simp, by simp⟩

theorem gm_sub {w : World} {base gb : Nat} {rv : Value} {P : List Nat} {ρ : Nat → Int} {rs : List Rl} {ns : List Nd} (h : Gm w base gb rv P ρ rs ns) (i : Nat) (hi : i < ns.length) : (nth ns i).subs.length ≤ 9223372036854775807 := by
  obtain ⟨z, vR, vP, _, _, _, _, hPs, _⟩ := h.ar.part i hi
  rw [nth_get hi]
  exact ownsRow_le hPs

set_option maxRecDepth 100000 in
set_option maxHeartbeats 3200000 in
theorem read_code (s : ByteArray) (w : World) (hm : s.size ≤ maxLen) :
    Calls Try.prog 8 #[.string s] w fun e w' => RdOut s w (refChk s) e w' := by
  unfold maxLen at hm
  have HC : Hid (refChk s = if 400 < s.size then (1, 0) else if 0 ≤ (read s).1.sc.bad then (2, (read s).1.sc.bad) else if 0 ≤ mis (read s).2 (read s).1.ns then (3, mis (read s).2 (read s).1.ns)
    else if 0 ≤ endless (read s).2 (read s).1.ns then (4, endless (read s).2 (read s).1.ns) else (0, 0)) := rfl
  generalize refChk s = C at *
  by_cases h400 : 400 < s.size
  · have h1 := HC.out
    rw [if_pos h400] at h1
    subst h1
    clear HC
    go_enter Try.func8, Try.ntmps8
    go_wp2
    go_ret3
    exact ⟨Kept.refl _ _, fun _ => rfl, fun h => absurd h (by decide)⟩
  · have h1 := HC.out
    rw [if_neg h400] at h1
    have hs : s.size ≤ 400 := by omega
    have hW := read_w s
    have hln := read_len hs
    have hgr := grammar_code s w.heap.size w.heap.size (.slice none 0 0) _ hs (cr_first s w)
    have H1 := hide h1
    clear HC h1
    generalize hX : read s = X at *
    have HX := hide hX
    clear hX
    obtain ⟨A, rs⟩ := X
    dsimp only at *
    go_enter Try.func8, Try.ntmps8
    go_wp2_with fail
    refine hgr.mono ?_
    intro e w2 hOut
    by_cases hbad : 0 ≤ A.sc.bad
    · have h2 := H1.out
      rw [if_pos hbad] at h2
      subst h2
      obtain ⟨rfl, mv', g', hR, hat, hS⟩ := hOut.no hbad
      obtain ⟨c0, c1, c2, c3, c4⟩ := hR.cells
      have hK := cs_new hS
      have HAT : Hid ((g'.at_ : Int) = A.sc.bad) := hat
      clear H1 hOut hgr hat
      go_wp2_with fail
      go_quiet (fail)
      go_wp2
      go_ret3
      exact ⟨hK.drewN _, fun _ => by rw [← HAT.out]; rfl, fun h => absurd (show (2 : Int) = 0 from h) (by decide)⟩
    · have h2 := H1.out
      rw [if_neg hbad] at h2
      have H2 := hide h2
      obtain ⟨mv', P, ms, gb, rv, z, rfl, hg, hown, hC, hMs, hS⟩ := hOut.ok (by show A.sc.bad < 0; omega)
      dsimp only at *
      have hK := cs_new hS
      have hG : Gm w2 w.heap.size gb rv P (fun _ => 0) rs A.ns := ⟨⟨z, hg⟩, hown, hC.ar.kept (Kept.refl (fun _ => False) w2) (fun _ _ _ x => x) (fun _ _ _ => trivial)⟩
      have hres := resolve_code w.heap.size gb _ rv mv' P ms rs A.ns w2 hG hC.own hMs hW.len (by have := hMs.len; have := hW.len; omega)
      obtain ⟨c0, c1, c2, c3, c4⟩ := hC.ris.cells
      obtain ⟨mp, mc, hmv⟩ := ownsRow_form hC.own
      have hPn : ∀ k, (∃ i, i < A.ns.length ∧ P.getD i 0 = k) → w.heap.size ≤ k := by
        rintro k ⟨i, hi, rfl⟩
        have hil : i < P.length := by rw [hG.ar.len]; exact hi
        exact hG.ar.low _ (by simp [List.getD, List.getElem?_eq_getElem hil])
      clear H1 h2 hOut hgr hS hC
      subst hmv
      go_wp2_with fail
      refine hres.mono ?_
      intro e w3 hOut
      have hK3 : Kept (fun _ => False) w w3 := ⟨hOut.kept.os.trans hK.os, hOut.kept.tape.trans hK.tape, hOut.kept.output.trans hK.output, Nat.le_trans hK.size hOut.kept.size, fun k hk hs => by
        rw [hOut.kept.block k (Nat.lt_of_lt_of_le hk hK.size) (fun x => by have := hPn k x; omega)]; exact hK.block k hk hs⟩
      by_cases hmis : 0 ≤ mis rs A.ns
      · have h3 := H2.out
        rw [if_pos hmis] at h3
        subst h3
        have he := hOut.no hmis
        subst he
        clear H2 hOut hres
        go_wp2
        go_ret3
        exact ⟨hK3, fun _ => rfl, fun h => absurd (show (3 : Int) = 0 from h) (by decide)⟩
      · have h3 := H2.out
        rw [if_neg hmis] at h3
        have H3 := hide h3
        obtain ⟨rfl, ρ, hG3, hρ⟩ := hOut.ok (by omega)
        have hends := ends_code hW (mis_named (by omega)) hρ (by omega) (fun i hi => gm_sub hG3 i hi) w3 hG3
        clear H2 h3 hOut hres
        go_wp2_with fail
        refine hends.mono ?_
        intro e w4 hOut
        have hK4 := hK3.trans hOut.kept
        by_cases hend : 0 ≤ endless rs A.ns
        · have h4 := H3.out
          rw [if_pos hend] at h4
          subst h4
          have he := hOut.no hend
          subst he
          clear H3 hOut hends
          go_wp2
          go_ret3
          exact ⟨hK4, fun _ => rfl, fun h => absurd (show (4 : Int) = 0 from h) (by decide)⟩
        · have h4 := H3.out
          rw [if_neg hend] at h4
          subst h4
          have he := hOut.ok (by omega)
          subst he
          have hG4 := hG3.same hOut.kept
          clear H3 hOut hends
          go_wp2
          go_ret3
          refine ⟨hK4, fun h => absurd rfl h, fun _ => ⟨gb, rfl, w.heap.size, rv, P, ρ, Nat.le_refl _, ?_⟩⟩
          rw [HX.out]; exact hG4

/-- The code's Check. -/
theorem check_code (s : ByteArray) (w : World) (hm : s.size ≤ maxLen) :
    Calls Try.prog 5 #[.string s] w fun e w' => e = .returned (.tuple #[.int .i64 (refChk s).1, .int .i64 (refChk s).2]) ∧ Kept (fun _ => False) w w' := by
  have hrd := read_code s w hm
  generalize refChk s = C at *
  obtain ⟨a, b⟩ := C
  dsimp only
  go_enter Try.func5, Try.ntmps5
  go_wp2_with fail
  refine hrd.mono ?_
  intro e w1 hOut
  have hK := hOut.kept
  by_cases ha : a = 0
  · obtain ⟨gb, rfl, _⟩ := hOut.ok ha
    clear hOut hrd ha
    go_wp2
    go_ret2
    exact ⟨rfl, hK⟩
  · have he := hOut.bad ha
    subst he
    clear hOut hrd ha
    go_wp2
    go_ret2
    exact ⟨rfl, hK⟩
end Go.Proofs.Ytagklnaaoclmhaa
