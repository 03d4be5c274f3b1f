import Derived.Test.YtagklnaaoclmhaaRefX
set_option linter.unusedSimpArgs false
set_option linter.unusedVariables false
namespace Go.Proofs.Ytagklnaaoclmhaa
open Go.RowKit

/-- What the ref's Check leaves. -/
structure RcPost (s : ByteArray) (w : World) (C : Int × Int) (e : Ending) (w' : World) : Prop where
  kept : Kept (fun _ => False) w w'
  bad : C.1 ≠ 0 → e = .returned (.tuple #[.pointer none, .int .i64 C.1, .int .i64 C.2])
  ok : C.1 = 0 → e = .returned (.tuple #[.pointer (some ⟨w.heap.size, 0, none⟩), .int .i64 C.1, .int .i64 C.2]) ∧ ∃ nv rv U, Rdy w' w.heap.size w.heap.size s nv rv U (read s).1 (read s).2

set_option maxRecDepth 100000 in
set_option maxHeartbeats 3200000 in
theorem refCheck_any (s : ByteArray) (w : World) (hm : s.size ≤ maxLen) :
    Calls Try.prog 6 #[.string s] w fun e w' => RcPost s w (refChk s) e w' := by
  unfold maxLen at hm
  have HC : Hid (refChk s = if 400 < s.size then (1, 0) else if 0 ≤ (read s).1.sc.bad then (2, (read s).1.sc.bad) else if 0 ≤ mis (read s).2 (read s).1.ns then (3, mis (read s).2 (read s).1.ns)
    else if 0 ≤ endless (read s).2 (read s).1.ns then (4, endless (read s).2 (read s).1.ns) else (0, 0)) := rfl
  generalize refChk s = C at *
  by_cases h400 : 400 < s.size
  · have h1 := HC.out
    rw [if_pos h400] at h1
    subst h1
    clear HC
    go_enter Try.func6, Try.ntmps6
    go_wp2
    go_ret3
    exact ⟨Kept.refl _ _, fun _ => rfl, fun h => absurd h (by decide)⟩
  · have h1 := HC.out
    rw [if_neg h400] at h1
    have hs : s.size ≤ 400 := by omega
    have hW := read_w s
    have hln := read_len hs
    have H1 := hide h1
    clear HC h1
    go_enter Try.func6, Try.ntmps6
    go_wp2_with fail
    refine (read_any s w hs).mono ?_
    rintro e w1 ⟨rfl, nv, rv, U, hR, hRu, hK⟩
    have hRd : Rdy w1 w.heap.size w.heap.size s nv rv U (read s).1 (read s).2 := ⟨hR, hRu⟩
    generalize hX : read s = X at *
    have HX := hide hX
    clear hX
    obtain ⟨A, rs⟩ := X
    dsimp only at *
    obtain ⟨b, hb⟩ : ∃ b, b = w.heap.size := ⟨_, rfl⟩
    rw [← hb] at hR hRu hRd ⊢
    obtain ⟨c0, c1, c2, c3, c4, c5, c6⟩ := hR.gis.cells
    have Hb := hide hb
    clear hb
    by_cases hbad : 0 ≤ A.sc.bad
    · have h2 := H1.out
      rw [if_pos hbad] at h2
      subst h2
      clear H1
      go_wp2_with fail
      go_quiet (fail)
      go_wp2
      go_ret3
      exact ⟨hK.drewN _, fun _ => rfl, fun h => absurd (show (2 : Int) = 0 from h) (by decide)⟩
    · have h2 := H1.out
      rw [if_neg hbad] at h2
      have H2 := hide h2
      clear H1 h2
      go_wp2_with fail
      refine (mis_any b b s nv rv U A rs _ hR hRu hW.len (by omega)).mono ?_
      rintro e w2 ⟨rfl, rfl⟩
      by_cases hmis : 0 ≤ mis rs A.ns
      · have h3 := H2.out
        rw [if_pos hmis] at h3
        subst h3
        clear H2
        go_wp2
        go_ret3
        exact ⟨hK, fun _ => rfl, fun h => absurd (show (3 : Int) = 0 from h) (by decide)⟩
      · have h3 := H2.out
        rw [if_neg hmis] at h3
        have H3 := hide h3
        have hN := mis_named (rs := rs) (ns := A.ns) (by omega)
        clear H2 h3
        go_wp2_with fail
        refine (endless_any b b s nv rv U A rs _ hRd hW hN (by omega)).mono ?_
        rintro e w3 ⟨rfl, hK3⟩
        have hK' := hK.then hK3 (fun _ _ h => h)
        have hRd3 := hRd.kept hK3 (fun _ x => x.elim)
        by_cases hend : 0 ≤ endless rs A.ns
        · have h4 := H3.out
          rw [if_pos hend] at h4
          subst h4
          clear H3
          go_wp2
          go_ret3
          exact ⟨hK', fun _ => rfl, fun h => absurd (show (4 : Int) = 0 from h) (by decide)⟩
        · have h4 := H3.out
          rw [if_neg hend] at h4
          subst h4
          clear H3
          go_wp2
          go_ret3
          exact ⟨hK', fun h => absurd rfl h, fun _ => ⟨by rw [← Hb.out]; rfl, nv, rv, U, by rw [← Hb.out, HX.out]; exact hRd3⟩⟩

end Go.Proofs.Ytagklnaaoclmhaa
