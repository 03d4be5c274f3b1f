import Derived.Test.YtagklnaaoclmhaaCodP
set_option linter.unusedSimpArgs false
set_option linter.unusedVariables false
namespace Go.Proofs.Ytagklnaaoclmhaa
open Go.RowKit

set_option maxRecDepth 100000 in
set_option maxHeartbeats 3200000 in
theorem cho_code {s : ByteArray} {ch : St → St × Nat} {d : Nat} (hch : d = 0 ∨ ChSaid 38 s ch (d - 1)) (hgd : d = 0 ∨ Good s ch (d - 1)) (base b : Nat) (mv : Value) (T : Nat → Prop) (P : List Nat) (ms : List Mn) (A : St) (w : World) (hC : CR w base b s mv T P ms A) (hO : Ok s A) (hb : A.sc.bad < 0) (hd : 5 ≤ A.sc.op + d) :
    Calls Try.prog 38 #[.pointer (some ⟨b, 0, none⟩)] w fun e w' => ChOut base b s mv T P ms A w (choM s ch A) e w' := by
  obtain ⟨i0, hi0, hz0, hz1, hz2⟩ := info_parts info67
  have hs := hO.size
  obtain ⟨L, hL⟩ : ∃ L, choF s ch (s.size + 3) [] A = L := ⟨_, rfl⟩
  have HP : Hid (choM s ch A = addN L.1 { nd0 with kind := 4, subs := L.2 }) := by unfold Hid choM; rw [hL]
  have HL : Hid (choF s ch (s.size + 2 + 1) [] A = L) := hL
  clear hL
  go_enter Try.func38, Try.ntmps38
  go_wp2
  go_loopg [4] (s.size + 2) (fun n v wx => ∃ acc A6 mv6 P2 l, SqI base b s mv T P ms A w n v wx acc A6 mv6 P2 l ∧ Hid (choF s ch (n + 1) acc A6 = L))
  case atStart =>
    refine ⟨[], A, mv, [], [], ⟨by have := rk_le s A.sc; omega, by have := rk_le s A.sc; simp; omega, hO, hb, rfl, ?_, by simp, ⟨World.ownsRow_nil _ _ _ _, by simp [Value.ownBlock], by simp [Value.ownBlock]⟩, by simp, Cs.refl _ _ _⟩, HL.out⟩
    rw [List.append_nil, mns, List.append_nil]
    exact hC.apart (fun k hk => by rcases hk with h | h; exact h; exact absurd h (by simp [Value.ownBlock]))
  case round =>
    obtain ⟨acc, A6, mv6, P2, l, hI, HR⟩ := hrel
    obtain ⟨m, hm⟩ : ∃ m, m = gk := ⟨gk, rfl⟩
    subst hm
    have hfc := seq_fc hgd hI.ok.iv (show 5 ≤ A6.sc.op + d by rw [hI.op]; exact hd)
    have hitem := seq_code hch hgd base b mv6 (And2 T u4) (P ++ P2) (ms ++ mns A.ns.length l) A6 wr hI.cr hI.ok hI.bad (by rw [hI.op]; exact hd)
    have h1 := HR.out
    rw [choF] at h1
    have H1 := hide h1
    clear h1 HR
    generalize seqM s ch A6 = X at *
    obtain ⟨B, x⟩ := X
    dsimp only at *
    go_wp2_with fail
    refine hitem.mono ?_
    intro e w7 hOut
    by_cases hbB : B.sc.bad < 0
    · obtain ⟨mv7, P3, l2, rfl, hns, hC7, hS7, hx⟩ := hOut.ok hbB
      dsimp only at *
      have hlen6 : (P ++ P2).length = A6.ns.length := hI.cr.ar.len
      have hA7 := hI.ac.cs hS7 (fun j hj => by rw [hlen6]; exact hI.lt j hj) P3
      have hH : w.heap.size ≤ w7.heap.size := Nat.le_trans hI.cs.kept.size hS7.kept.size
      have hbase : base ≤ w7.heap.size := by have := hC7.bb; have := hC7.lt; omega
      have hal : acc.length ≤ 402 := by have := hI.len; omega
      clear hitem hOut
      unfold ptrAt
      obtain ⟨pq, hpq⟩ : ∃ pq, pq = (P ++ P2 ++ P3).getD x 0 := ⟨_, rfl⟩
      rw [← hpq]
      have HQ := hide hpq
      clear hpq
      go_wp2_with (at_builtin; refine wpList_append_lies _ rfl _ _ _ rfl base 67 i0 _ 1 8 Try.underlying77 hi0 hz0 hz1 hz2 rfl (by omega) u4 acc.length (acc.map (ptrAt (P ++ P2 ++ P3))) (by rfl) (hA7.own.alloc _) ⟨w7.heap.size, 0, none⟩ 1 1 [.pointer (some ⟨pq, 0, none⟩)] (by rfl) rfl (World.news_of_block (cs := #[.pointer (some ⟨pq, 0, none⟩)]) (t := 67) (fr := (0, 0)) (heap_alloc_new w7 _)) (by simp [Value.oneCell']) (by omega) (by simp [maxLen]; omega) (by omega) (by simp; omega) (w7.heap.size + 1) (by simp) ?_; intro gg cap w9 hown hgrow hat hlt)
      obtain ⟨hA9, hC9, hk9⟩ := hA7.app (x := x) hC7 hH (by unfold ptrAt at hown ⊢; rw [← HQ.out]; exact hown) hgrow hat
      have ht7 := hC7.t40
      have hgb : (sg s B.sc 47).bad < 0 := by rw [sg_bad]; exact hbB
      have hgt : (sg s B.sc 47).t ≤ 40 := by rw [sg_t]; exact ht7
      have hrk : rk s (sg s B.sc 47) < rk s A6.sc := rk_lt hI.ok.iv hI.bad (fun _ => by have := hfc.prog hbB; have := sg_ge s B.sc 47; omega)
      have hO7 := (hI.ok.next hfc hbB (by decide)).sc (Fs.sg hfc.iv 47) (sg_t s B.sc 47)
      have hop7 : (sg s B.sc 47).op = A.sc.op := by rw [sg_op, hfc.op, hI.op]
      have hP : P ++ P2 ++ P3 = P ++ (P2 ++ P3) := List.append_assoc ..
      have hms : ms ++ mns A.ns.length l ++ mns A6.ns.length l2 = ms ++ mns A.ns.length (l ++ l2) := by
        rw [mns_app, List.append_assoc, hI.ns, List.length_append]
      have hns7 : B.ns = A.ns ++ (l ++ l2) := by rw [hns, hI.ns, List.append_assoc]
      have hlt7 : ∀ j ∈ acc ++ [x], j < B.ns.length := by
        intro j hj
        rcases List.mem_append.1 hj with h | h
        · have := hI.lt j h; have := hfc.len; omega
        · rw [List.mem_singleton.1 h]; exact hx
      have hS9 : Cs b mv mv7 w w9 := by
        have h0 := hI.cs.trans hS7
        refine ⟨h0.kept.then9 hk9 hA7.new, fun k hk => ?_⟩
        exact h0.own k hk
      rw [hP] at hA9 hC9
      rw [hms] at hC9
      generalize hv10 : Value.slice (some ⟨gg, 0, none⟩) (acc.length + 1) cap = v10 at *
      obtain ⟨p10, cap10, hvf⟩ : ∃ p c, v10 = .slice p (acc.length + 1) c := ⟨_, _, hv10.symm⟩
      clear hv10 hown hgrow hat hlt hA7 hC7 HQ hk9
      refine (takeSign_any b s mv7 B.sc 47 _ hC9.ris hs hfc.iv hbB (by decide)).mono ?_
      rintro e w11 ⟨rfl, hR11, hK11⟩
      have hC11 := hC9.only hK11 hR11 hgt
      have hA11 := hA9.only hK11
      have hS11 := hS9.trans (Cs.only (mv := mv7) hK11)
      clear hC9 hA9 hR11 hK11
      cases hse : sgB s B.sc 47
      · have H2 : Hid (choM s ch A = addN { B with sc := sg s B.sc 47 } { nd0 with kind := 4, subs := acc ++ [x] }) := by
          have h1 := H1.out
          rw [hse] at h1
          simp only [Bool.false_eq_true, if_false] at h1
          unfold Hid; rw [HP.out, ← h1]
        have hC12 := (hC11.apart (T' := T) (fun k h => .inl h)).add { nd0 with kind := 4, subs := acc ++ [x] } (World.ownsRow_nil _ _ _ _) (by simp [Value.ownBlock]) hA11.own (fun j hj => ⟨(hA11.nb j hj).1, (hA11.nb j hj).2, fun hT => by have := hC.told j hT; have := hA11.new j hj; omega⟩) hlt7
        have hl12 : (P ++ (P2 ++ P3)).length = B.ns.length := hC11.ar.len
        subst hvf
        clear H1 HP HL hse
        go_wp2_with fail
        refine (partOf_any _ _ _ _ _).mono ?_
        rintro e w13 ⟨rfl, rfl⟩
        go_wp2
        go_ret2
        rw [H2.out]
        have hz13 := hS11.kept.size
        refine ⟨⟨fun _ => ⟨mv7, P2 ++ P3 ++ [w11.heap.size], l ++ l2 ++ [{ nd0 with kind := 4, subs := acc ++ [x] }], ?_, ?_, ?_, hS11.trans (Cs.only ((Kept.refl (· = b) w11).alloc _)), by simp [addN]⟩, fun h => absurd (show 0 ≤ (sg s B.sc 47).bad from h) (by omega)⟩, fun _ => ⟨w11.heap.size, rfl, hz13⟩⟩
        · unfold ptrAt addN; simp only
          rw [← List.append_assoc P, getD_app_r (by omega), hl12]
          simp
        · show B.ns ++ _ = _
          rw [hns7, List.append_assoc, List.append_assoc]
        · rw [← List.append_assoc P, mns_app, mns_none (show (4 : Nat) ≠ 3 by decide), List.append_nil]
          exact hC12
      · have H2 : Hid (choF s ch (m - 1 + 1) (acc ++ [x]) { B with sc := sg s B.sc 47 } = L) := by
          have h1 := H1.out
          rw [hse] at h1
          simp only [if_true] at h1
          unfold Hid
          rw [show m - 1 + 1 = m by have := hI.rkl; omega]
          exact h1
        have HM : Hid (rk s (sg s B.sc 47) < rk s A6.sc ∧ rk s A6.sc ≤ m ∧ acc.length + rk s A6.sc ≤ 402) := ⟨hrk, hI.rkl, hI.len⟩
        clear H1 HP HL hse hrk
        subst hvf
        go_wp2
        go_roundg (m - 1)
        case measure => have := HM.out; omega
        case rel =>
          have := HM.out
          exact ⟨acc ++ [x], { B with sc := sg s B.sc 47 }, mv7, P2 ++ P3, l ++ l2, ⟨by dsimp only; omega, by simp; omega, hO7, hgb, hop7, hC11, hns7, hA11, hlt7, hS11⟩, H2.out⟩
    · obtain ⟨v, c, rfl, mv', g', f1, f2, f3, f4⟩ := hOut.no (show 0 ≤ B.sc.bad by omega)
      dsimp only at *
      have H2 : Hid ((choM s ch A).1.sc.bad = B.sc.bad) := by
        have h1 := H1.out
        have hq : sgB s B.sc 47 = false := sgB_bad 47 (by omega)
        rw [hq] at h1
        simp only [Bool.false_eq_true, if_false] at h1
        unfold Hid; rw [HP.out, ← h1]; show (sg s B.sc 47).bad = _; rw [sg_bad]
      have hS8 := hI.cs.trans f3
      have hop6 := hI.op
      have hH : w.heap.size ≤ w7.heap.size := hS8.kept.size
      have hbase : base ≤ w7.heap.size := by have := hI.cr.bb; have := hI.cr.lt; have := f3.kept.size; omega
      have hal : acc.length ≤ 402 := by have := hI.len; omega
      have hlen6 : (P ++ P2).length = A6.ns.length := hI.cr.ar.len
      have hA7 := hI.ac.cs f3 (fun j hj => by rw [hlen6]; exact hI.lt j hj) []
      rw [List.append_nil] at hA7
      clear H1 HP HL hitem hOut
      cases c
      · go_wp2
        go_ret2
        exact ⟨⟨fun h => absurd h (by rw [H2.out]; omega), fun _ => ⟨_, false, rfl, mv', g', f1, by rw [H2.out]; exact f2, hS8, fun h => absurd h (by simp)⟩⟩, fun h => absurd h (by rw [H2.out]; omega)⟩
      · obtain ⟨hSt, pv, rfl⟩ := f4 rfl
        rw [hop6] at hSt
        clear f4
        go_wp2_with (at_builtin; refine wpList_append_lies _ rfl _ _ _ rfl base 67 i0 _ 1 8 Try.underlying77 hi0 hz0 hz1 hz2 rfl (by omega) u4 acc.length (acc.map (ptrAt (P ++ P2))) (by rfl) (hA7.own.alloc _) ⟨w7.heap.size, 0, none⟩ 1 1 [.pointer pv] (by rfl) rfl (World.news_of_block (cs := #[.pointer pv]) (t := 67) (fr := (0, 0)) (heap_alloc_new w7 _)) (by simp [Value.oneCell']) (by omega) (by simp [maxLen]; omega) (by omega) (by simp; omega) (w7.heap.size + 1) (by simp) ?_; intro gg cap w9 hown hgrow hat hlt)
        have hk9 : Kept (fun k => u4.ownBlock = some k) w7 w9 := ((Kept.refl _ w7).alloc _).grown hgrow (fun k hk _ => hk)
        have hR9 : Ris w9 b s mv' g' := f1.kept hk9 (fun hx => (hA7.nb b hx).1 rfl)
        have hS9 : Cs b mv mv' w w9 := ⟨hS8.kept.then9 hk9 hA7.new, fun k hk => hS8.own k hk⟩
        have hq := hSt.sgB hSt.n47
        have hq2 := hSt.sg hSt.n47
        clear hown hgrow hat hlt hk9
        refine (takeSign_any b s mv' g' 47 _ hR9 hs hSt.iv hSt.bad (by decide)).mono ?_
        rintro e w11 ⟨rfl, hR11, hK11⟩
        rw [hq2] at hR11
        rw [hq]
        go_wp2_with fail
        refine (partOf_any _ _ _ _ _).mono ?_
        rintro e w13 ⟨rfl, rfl⟩
        go_wp2
        go_ret2
        refine ⟨?_, fun h => absurd h (by rw [H2.out]; omega)⟩
        exact ⟨fun h => absurd h (by rw [H2.out]; omega), fun _ => ⟨_, _, rfl, mv', g', hR11.alloc _, by rw [H2.out]; exact f2, (hS9.trans (Cs.only (mv := mv') hK11)).trans (Cs.only ((Kept.refl (· = b) w11).alloc _)), fun _ => ⟨hSt, _, rfl⟩⟩⟩

theorem choD_said (s : ByteArray) : ∀ d, ChSaid 38 s (choD s (d + 1)) d
  | 0 => fun base b mv T P ms A w hC hO hb hd => cho_code (.inl rfl) (.inl rfl) base b mv T P ms A w hC hO hb hd
  | d + 1 => fun base b mv T P ms A w hC hO hb hd => cho_code (d := d + 1) (.inr (choD_said s d)) (.inr (choD_good s d)) base b mv T P ms A w hC hO hb hd

end Go.Proofs.Ytagklnaaoclmhaa
