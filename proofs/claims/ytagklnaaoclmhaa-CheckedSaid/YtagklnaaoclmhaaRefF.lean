import Derived.Test.YtagklnaaoclmhaaRefD
set_option linter.unusedSimpArgs false
set_option linter.unusedVariables false
namespace Go.Proofs.Ytagklnaaoclmhaa
open Go.RowKit

/-- n bits from a on are set in a node's cells. -/
def markN (c : Array Value) (a : Nat) : Nat → Array Value
  | 0 => c
  | n + 1 => (markN c a n).setIfInBounds (2 + (a + n)) (.bool true)
def marks (c : Array Value) (l : List (Nat × Nat)) : Array Value := l.foldl (fun c r => markN c r.1 (r.2 + 1 - r.1)) c

theorem markN_size (c : Array Value) (a : Nat) : ∀ n, (markN c a n).size = c.size
  | 0 => rfl
  | n + 1 => by simp [markN, markN_size c a n]
theorem marks_size (l : List (Nat × Nat)) : ∀ c, (marks c l).size = c.size := by
  induction l with
  | nil => intro c; rfl
  | cons r l ih => intro c; simp only [marks, List.foldl_cons] at *; rw [ih, markN_size]
theorem marks_snoc (c : Array Value) (l : List (Nat × Nat)) (r : Nat × Nat) : marks c (l ++ [r]) = markN (marks c l) r.1 (r.2 + 1 - r.1) := by simp [marks]

theorem inner_any0 (b : Nat) (s bs : ByteArray) (nv rv : Value) (g : Sc) (w : World) (hG : Gis w b s nv rv g) (hs : s.size ≤ 400) (hbs : bs.size ≤ 1000) (hat : g.at_ ≤ 10000) :
    Calls Try.prog 61 #[.pointer (some ⟨b, 0, none⟩), .string bs, .int .i64 0] w fun e w' => e = .returned (.int .i64 ((inner s g bs.data.toList 0).1 : Int)) ∧ Gis w' b s nv rv (inner s g bs.data.toList 0).2 ∧ Kept (· = b) w w' :=
  inner_any b s bs nv rv g 0 w hG hs hbs (by omega) hat

theorem objAt_cell {w : World} {k i : Nat} {c : Array Value} {e : TypeId} {fr : Nat × Nat} (h : objAt w k = some (.cells c e fr)) : w.cell? ⟨k, i, none⟩ = c[i]? := cell_of_row w k i c e fr h
theorem objAt_frozen {w : World} {k i : Nat} {c : Array Value} {e : TypeId} (h : objAt w k = some (.cells c e (0, 0))) : w.frozen? ⟨k, i, none⟩ = false := by
  have h' : w.heap[k]? = _ := h
  simp [World.frozen?, h']
theorem objAt_set {w : World} {k i : Nat} {c : Array Value} {e : TypeId} {fr : Nat × Nat} (h : objAt w k = some (.cells c e fr)) (u : Value) : objAt (w.setCell ⟨k, i, none⟩ u) k = some (.cells (c.setIfInBounds i u) e fr) := heap_set_at h i u
theorem objAt_kept {S : Nat → Prop} {w w' : World} {k : Nat} {o : Obj} (h : objAt w k = some o) (hk : Kept S w w') (hs : ¬ S k) : objAt w' k = some o := by
  have := objAt_lt h
  unfold objAt at *
  rw [hk.block k this hs]; exact h

/-- set. -/
def set (s : ByteArray) (g : Sc) : List (Nat × Nat) × Sc := ((setF s (s.size + 2) true g).1, adv (setF s (s.size + 2) true g).2)

set_option maxRecDepth 100000 in
set_option maxHeartbeats 3200000 in
/-- A round's end: the bits are set. -/
theorem set_any (b kb : Nat) (s : ByteArray) (nv rv : Value) (g : Sc) (c : Array Value) (w : World) (hG : Gis w b s nv rv g) (hO : objAt w kb = some (.cells c 59 (0, 0))) (hc : c.size = 262) (hs : s.size ≤ 400) (hI : Iv s g) :
    Calls Try.prog 62 #[.pointer (some ⟨b, 0, none⟩), .pointer (some ⟨kb, 0, none⟩)] w fun e w' => e = .returned (.tuple #[]) ∧ Gis w' b s nv rv (set s g).2 ∧ objAt w' kb = some (.cells (marks c (set s g).1) 59 (0, 0)) ∧ Kept (fun k => k = b ∨ k = kb) w w' := by
  have hbk : b ≠ kb := by
    rintro rfl
    have h1 : objAt w b = _ := hG
    rw [hO] at h1
    simp at h1
  have HS : Hid (([] : List (Nat × Nat)) ++ (setF s (s.size + 1 + 1) true g).1 = (set s g).1 ∧ adv (setF s (s.size + 1 + 1) true g).2 = (set s g).2) := ⟨rfl, rfl⟩
  generalize set s g = R at *
  obtain ⟨R1, R2⟩ := R
  go_enter Try.func62, Try.ntmps62
  go_wp2
  go_loopg [4] (s.size + 1) (fun n v wx => ∃ fst g2 acc, v = .bool fst ∧ rk s g2 ≤ n ∧ Iv s g2 ∧ Gis wx b s nv rv g2 ∧ objAt wx kb = some (.cells (marks c acc) 59 (0, 0)) ∧ Kept (fun k => k = b ∨ k = kb) w wx ∧
    Hid (acc ++ (setF s (n + 1) fst g2).1 = R1 ∧ adv (setF s (n + 1) fst g2).2 = R2))
  case atStart => exact ⟨true, g, [], rfl, rk_le _ _, hI, hG, hO, Kept.refl _ _, HS⟩
  case round =>
    obtain ⟨fst, g2, acc, rfl, hrk, hI2, hG2, hO2, hK2, HR⟩ := hrel
    obtain ⟨c0, c1, c2, c3, c4, c5, c6⟩ := hG2.cells
    have hf := hG2.frozen 5
    have hat2 := hI2.2
    by_cases hb : g2.bad < 0
    · by_cases hcond : fst = true ∨ pk s g2 ≠ 93
      · have h1 := HR.out
        rw [setF, if_pos ⟨hb, hcond⟩] at h1
        have H1 := hide h1
        clear h1 HR
        obtain ⟨m, hm⟩ : ∃ m, m = gk := ⟨gk, rfl⟩
        subst hm
        have HM : Hid (rk s (setR s g2).2 < rk s g2 ∧ rk s g2 ≤ m) := ⟨rk_lt hI2 hb (fun h => ((setR_facts hI2).2.2.2.2.2.2 h).2), hrk⟩
        have IVR := (setR_facts hI2).1
        clear hrk
        have HSR : Hid (setR s g2 = if pk s (inner s g2 barC 0).2 = 45 then (((inner s g2 barC 0).1, (inner s (adv (inner s g2 barC 0).2) barC (inner s g2 barC 0).1).1), (inner s (adv (inner s g2 barC 0).2) barC (inner s g2 barC 0).1).2)
          else (((inner s g2 barC 0).1, (inner s g2 barC 0).1), (inner s g2 barC 0).2)) := rfl
        obtain ⟨i1, i2, i3, i4, i5, i6⟩ := inner_facts hI2 barC 0
        have hinn := inner_any0 b s ⟨#[10, 93, 45]⟩ nv rv g2
        change ∀ w, Gis w b s nv rv g2 → s.size ≤ 400 → _ ≤ 1000 → g2.at_ ≤ 10000 → Calls Try.prog 61 #[.pointer (some ⟨b, 0, none⟩), .string ⟨#[10, 93, 45]⟩, .int .i64 0] w fun e w' => e = .returned (.int .i64 ((inner s g2 barC 0).1 : Int)) ∧ Gis w' b s nv rv (inner s g2 barC 0).2 ∧ Kept (· = b) w w' at hinn
        have HINN := hide hinn
        clear hinn
        generalize inner s g2 barC 0 = I at *
        obtain ⟨a, g4⟩ := I
        simp only at *

        cases fst
        · have hpk' : ((pk s g2 : Int) != 93) = true := by
            have : pk s g2 ≠ 93 := by rcases hcond with h | h; · cases h
                                      · exact h
            simp; omega
          clear hcond
          go_wp2_with fail
          refine (peek_any b s nv rv g2 _ hG2 hs).mono ?_
          rintro e w3 ⟨rfl, n3, rfl⟩
          go_wp2_with fail
          refine (HINN.out _ (hG2.drewN _) hs (by decide) (by omega)).mono ?_
          rintro e w4 ⟨rfl, hG4, hK4⟩
          have hK4' : Kept (fun k => k = b ∨ k = kb) w w4 := (hK2.drewN _).trans (hK4.mono (fun _ _ h => Or.inl h))
          have hO4 : objAt w4 kb = some (.cells (marks c acc) 59 (0, 0)) := objAt_kept (show objAt (wr.drewN n3) kb = _ from hO2) hK4 (fun h => hbk h.symm)
          go_wp2_with fail
          refine (peek_any b s nv rv g4 _ hG4 hs).mono ?_
          rintro e w5 ⟨rfl, n5, rfl⟩
          by_cases h45 : pk s g4 = 45
          · have h45' : ((pk s g4 : Int) == 45) = true := by simp; omega
            have hSR := HSR.out
            rw [if_pos h45] at hSR
            obtain ⟨p1, p2, p3⟩ := pk_pos (s := s) (g := g4) (by omega)
            clear h45 HSR
            obtain ⟨j1, j2, j3, j4, j5, j6⟩ := inner_facts (i1.adv p2) barC a
            have hinn := inner_any b s ⟨#[10, 93, 45]⟩ nv rv (adv g4) a
            change ∀ w, Gis w b s nv rv (adv g4) → s.size ≤ 400 → _ ≤ 1000 → a < 256 → (adv g4).at_ ≤ 10000 → Calls Try.prog 61 #[.pointer (some ⟨b, 0, none⟩), .string ⟨#[10, 93, 45]⟩, .int .i64 (a : Int)] w fun e w' => e = .returned (.int .i64 ((inner s (adv g4) barC a).1 : Int)) ∧ Gis w' b s nv rv (inner s (adv g4) barC a).2 ∧ Kept (· = b) w w' at hinn
            have HJ := hide hinn
            clear hinn
            generalize inner s (adv g4) barC a = J at *
            obtain ⟨bb, g6⟩ := J
            simp only at *
            obtain ⟨d0, d1, d2, d3, d4, d5, d6⟩ := hG4.cells
            have hf4 := hG4.frozen 5
            have HSRE := hide hSR
            clear hSR
            have hat4 := i1.2
            go_wp2_with fail
            refine (HJ.out _ ((hG4.drewN _).setAt _) hs (by decide) i3 (by rw [adv_at]; omega)).mono ?_
            rintro e w7 ⟨rfl, hG7, hK7⟩
            have HKE : Kept (fun k => k = b ∨ k = kb) w w7 := ((hK4'.drewN _).setCell (fun _ => Or.inl rfl) _).trans (hK7.mono (fun _ _ h => Or.inl h))
            have HOE : objAt w7 kb = some (.cells (marks c acc) 59 (0, 0)) := objAt_kept (by rw [objAt_other _ _ _ (Ne.symm hbk), objAt_drewN]; exact hO4) hK7 (fun h => hbk h.symm)
            clear d0 d1 d2 d3 d4 d5 d6 hf4
            go_wp2_with fail
            go_loopg [7] (bb + 1 - a) (fun n v wy => ∃ k : Nat, v = .int .i64 ((a + k : Nat) : Int) ∧ n + k = bb + 1 - a ∧ Gis wy b s nv rv g6 ∧ objAt wy kb = some (.cells (markN (marks c acc) a k) 59 (0, 0)) ∧ Kept (fun k => k = b ∨ k = kb) w wy)
            case atStart => exact ⟨0, rfl, rfl, hG7, HOE, HKE⟩
            case round =>
              obtain ⟨k, rfl, hnk, hGy, hOy, hKy⟩ := hrel
              by_cases hle : a + k ≤ bb
              · have hsz : (markN (marks c acc) a k).size = 262 := by rw [markN_size, marks_size, hc]
                obtain ⟨u, hu⟩ : ∃ u, wr.cell? ⟨kb, 2 + (a + k), none⟩ = some u := by
                  rw [objAt_cell hOy]; exact ⟨_, Array.getElem?_eq_getElem (by omega)⟩
                have hfz : wr.frozen? ⟨kb, 2 + (a + k), none⟩ = false := objAt_frozen hOy
                have HNK := hide hnk
                clear hnk hsz
                go_wp2
                go_roundg (gk - 1)
                case measure => have := HNK.out; omega
                case rel => exact ⟨k + 1, by go_num, by have := HNK.out; omega, hGy.setOther hbk _, objAt_set hOy _, hKy.setCell (fun _ => Or.inr rfl) _⟩
              · have hmk : markN (marks c acc) a k = marks c (acc ++ [(a, bb)]) := by
                  rw [marks_snoc]; congr 1; omega
                rw [hmk] at hOy
                clear hmk
                go_wp2
                go_roundg (m - 1)
                case measure => have := HM.out; omega
                case rel =>
                  have := HM.out
                  refine ⟨false, g6, acc ++ [(a, bb)], rfl, (by have h9 := this.1; rw [HSRE.out] at h9; have := this.2; simp only at h9; omega), (by have := IVR; rw [HSRE.out] at this; exact this), hGy, hOy, hKy, ?_⟩
                  have h2 := H1.out
                  rw [show m - 1 + 1 = m by omega]
                  unfold Hid
                  rw [HSRE.out] at h2
                  rw [List.append_assoc]
                  exact h2

          · have h45' : ((pk s g4 : Int) == 45) = false := by simp; omega
            have hSR := HSR.out
            rw [if_neg h45] at hSR
            clear h45 HSR
            have HSRE := hide hSR
            clear hSR
            have HKE : Kept (fun k => k = b ∨ k = kb) w (w4.drewN n5) := hK4'.drewN _
            have HOE : objAt (w4.drewN n5) kb = some (.cells (marks c acc) 59 (0, 0)) := hO4
            go_wp2_with fail
            go_loopg [7] (a + 1 - a) (fun n v wy => ∃ k : Nat, v = .int .i64 ((a + k : Nat) : Int) ∧ n + k = a + 1 - a ∧ Gis wy b s nv rv g4 ∧ objAt wy kb = some (.cells (markN (marks c acc) a k) 59 (0, 0)) ∧ Kept (fun k => k = b ∨ k = kb) w wy)
            case atStart => exact ⟨0, rfl, rfl, (hG4.drewN n5), HOE, HKE⟩
            case round =>
              obtain ⟨k, rfl, hnk, hGy, hOy, hKy⟩ := hrel
              by_cases hle : a + k ≤ a
              · have hsz : (markN (marks c acc) a k).size = 262 := by rw [markN_size, marks_size, hc]
                obtain ⟨u, hu⟩ : ∃ u, wr.cell? ⟨kb, 2 + (a + k), none⟩ = some u := by
                  rw [objAt_cell hOy]; exact ⟨_, Array.getElem?_eq_getElem (by omega)⟩
                have hfz : wr.frozen? ⟨kb, 2 + (a + k), none⟩ = false := objAt_frozen hOy
                have HNK := hide hnk
                clear hnk hsz
                go_wp2
                go_roundg (gk - 1)
                case measure => have := HNK.out; omega
                case rel => exact ⟨k + 1, by go_num, by have := HNK.out; omega, hGy.setOther hbk _, objAt_set hOy _, hKy.setCell (fun _ => Or.inr rfl) _⟩
              · have hmk : markN (marks c acc) a k = marks c (acc ++ [(a, a)]) := by
                  rw [marks_snoc]; congr 1; omega
                rw [hmk] at hOy
                clear hmk
                go_wp2
                go_roundg (m - 1)
                case measure => have := HM.out; omega
                case rel =>
                  have := HM.out
                  refine ⟨false, g4, acc ++ [(a, a)], rfl, (by have h9 := this.1; rw [HSRE.out] at h9; have := this.2; simp only at h9; omega), (by have := IVR; rw [HSRE.out] at this; exact this), hGy, hOy, hKy, ?_⟩
                  have h2 := H1.out
                  rw [show m - 1 + 1 = m by omega]
                  unfold Hid
                  rw [HSRE.out] at h2
                  rw [List.append_assoc]
                  exact h2

        · clear hcond
          go_wp2_with fail
          refine (HINN.out _ (hG2) hs (by decide) (by omega)).mono ?_
          rintro e w4 ⟨rfl, hG4, hK4⟩
          have hK4' : Kept (fun k => k = b ∨ k = kb) w w4 := (hK2).trans (hK4.mono (fun _ _ h => Or.inl h))
          have hO4 : objAt w4 kb = some (.cells (marks c acc) 59 (0, 0)) := objAt_kept (hO2) hK4 (fun h => hbk h.symm)
          go_wp2_with fail
          refine (peek_any b s nv rv g4 _ hG4 hs).mono ?_
          rintro e w5 ⟨rfl, n5, rfl⟩
          by_cases h45 : pk s g4 = 45
          · have h45' : ((pk s g4 : Int) == 45) = true := by simp; omega
            have hSR := HSR.out
            rw [if_pos h45] at hSR
            obtain ⟨p1, p2, p3⟩ := pk_pos (s := s) (g := g4) (by omega)
            clear h45 HSR
            obtain ⟨j1, j2, j3, j4, j5, j6⟩ := inner_facts (i1.adv p2) barC a
            have hinn := inner_any b s ⟨#[10, 93, 45]⟩ nv rv (adv g4) a
            change ∀ w, Gis w b s nv rv (adv g4) → s.size ≤ 400 → _ ≤ 1000 → a < 256 → (adv g4).at_ ≤ 10000 → Calls Try.prog 61 #[.pointer (some ⟨b, 0, none⟩), .string ⟨#[10, 93, 45]⟩, .int .i64 (a : Int)] w fun e w' => e = .returned (.int .i64 ((inner s (adv g4) barC a).1 : Int)) ∧ Gis w' b s nv rv (inner s (adv g4) barC a).2 ∧ Kept (· = b) w w' at hinn
            have HJ := hide hinn
            clear hinn
            generalize inner s (adv g4) barC a = J at *
            obtain ⟨bb, g6⟩ := J
            simp only at *
            obtain ⟨d0, d1, d2, d3, d4, d5, d6⟩ := hG4.cells
            have hf4 := hG4.frozen 5
            have HSRE := hide hSR
            clear hSR
            have hat4 := i1.2
            go_wp2_with fail
            refine (HJ.out _ ((hG4.drewN _).setAt _) hs (by decide) i3 (by rw [adv_at]; omega)).mono ?_
            rintro e w7 ⟨rfl, hG7, hK7⟩
            have HKE : Kept (fun k => k = b ∨ k = kb) w w7 := ((hK4'.drewN _).setCell (fun _ => Or.inl rfl) _).trans (hK7.mono (fun _ _ h => Or.inl h))
            have HOE : objAt w7 kb = some (.cells (marks c acc) 59 (0, 0)) := objAt_kept (by rw [objAt_other _ _ _ (Ne.symm hbk), objAt_drewN]; exact hO4) hK7 (fun h => hbk h.symm)
            clear d0 d1 d2 d3 d4 d5 d6 hf4
            go_wp2_with fail
            go_loopg [7] (bb + 1 - a) (fun n v wy => ∃ k : Nat, v = .int .i64 ((a + k : Nat) : Int) ∧ n + k = bb + 1 - a ∧ Gis wy b s nv rv g6 ∧ objAt wy kb = some (.cells (markN (marks c acc) a k) 59 (0, 0)) ∧ Kept (fun k => k = b ∨ k = kb) w wy)
            case atStart => exact ⟨0, rfl, rfl, hG7, HOE, HKE⟩
            case round =>
              obtain ⟨k, rfl, hnk, hGy, hOy, hKy⟩ := hrel
              by_cases hle : a + k ≤ bb
              · have hsz : (markN (marks c acc) a k).size = 262 := by rw [markN_size, marks_size, hc]
                obtain ⟨u, hu⟩ : ∃ u, wr.cell? ⟨kb, 2 + (a + k), none⟩ = some u := by
                  rw [objAt_cell hOy]; exact ⟨_, Array.getElem?_eq_getElem (by omega)⟩
                have hfz : wr.frozen? ⟨kb, 2 + (a + k), none⟩ = false := objAt_frozen hOy
                have HNK := hide hnk
                clear hnk hsz
                go_wp2
                go_roundg (gk - 1)
                case measure => have := HNK.out; omega
                case rel => exact ⟨k + 1, by go_num, by have := HNK.out; omega, hGy.setOther hbk _, objAt_set hOy _, hKy.setCell (fun _ => Or.inr rfl) _⟩
              · have hmk : markN (marks c acc) a k = marks c (acc ++ [(a, bb)]) := by
                  rw [marks_snoc]; congr 1; omega
                rw [hmk] at hOy
                clear hmk
                go_wp2
                go_roundg (m - 1)
                case measure => have := HM.out; omega
                case rel =>
                  have := HM.out
                  refine ⟨false, g6, acc ++ [(a, bb)], rfl, (by have h9 := this.1; rw [HSRE.out] at h9; have := this.2; simp only at h9; omega), (by have := IVR; rw [HSRE.out] at this; exact this), hGy, hOy, hKy, ?_⟩
                  have h2 := H1.out
                  rw [show m - 1 + 1 = m by omega]
                  unfold Hid
                  rw [HSRE.out] at h2
                  rw [List.append_assoc]
                  exact h2

          · have h45' : ((pk s g4 : Int) == 45) = false := by simp; omega
            have hSR := HSR.out
            rw [if_neg h45] at hSR
            clear h45 HSR
            have HSRE := hide hSR
            clear hSR
            have HKE : Kept (fun k => k = b ∨ k = kb) w (w4.drewN n5) := hK4'.drewN _
            have HOE : objAt (w4.drewN n5) kb = some (.cells (marks c acc) 59 (0, 0)) := hO4
            go_wp2_with fail
            go_loopg [7] (a + 1 - a) (fun n v wy => ∃ k : Nat, v = .int .i64 ((a + k : Nat) : Int) ∧ n + k = a + 1 - a ∧ Gis wy b s nv rv g4 ∧ objAt wy kb = some (.cells (markN (marks c acc) a k) 59 (0, 0)) ∧ Kept (fun k => k = b ∨ k = kb) w wy)
            case atStart => exact ⟨0, rfl, rfl, (hG4.drewN n5), HOE, HKE⟩
            case round =>
              obtain ⟨k, rfl, hnk, hGy, hOy, hKy⟩ := hrel
              by_cases hle : a + k ≤ a
              · have hsz : (markN (marks c acc) a k).size = 262 := by rw [markN_size, marks_size, hc]
                obtain ⟨u, hu⟩ : ∃ u, wr.cell? ⟨kb, 2 + (a + k), none⟩ = some u := by
                  rw [objAt_cell hOy]; exact ⟨_, Array.getElem?_eq_getElem (by omega)⟩
                have hfz : wr.frozen? ⟨kb, 2 + (a + k), none⟩ = false := objAt_frozen hOy
                have HNK := hide hnk
                clear hnk hsz
                go_wp2
                go_roundg (gk - 1)
                case measure => have := HNK.out; omega
                case rel => exact ⟨k + 1, by go_num, by have := HNK.out; omega, hGy.setOther hbk _, objAt_set hOy _, hKy.setCell (fun _ => Or.inr rfl) _⟩
              · have hmk : markN (marks c acc) a k = marks c (acc ++ [(a, a)]) := by
                  rw [marks_snoc]; congr 1; omega
                rw [hmk] at hOy
                clear hmk
                go_wp2
                go_roundg (m - 1)
                case measure => have := HM.out; omega
                case rel =>
                  have := HM.out
                  refine ⟨false, g4, acc ++ [(a, a)], rfl, (by have h9 := this.1; rw [HSRE.out] at h9; have := this.2; simp only at h9; omega), (by have := IVR; rw [HSRE.out] at this; exact this), hGy, hOy, hKy, ?_⟩
                  have h2 := H1.out
                  rw [show m - 1 + 1 = m by omega]
                  unfold Hid
                  rw [HSRE.out] at h2
                  rw [List.append_assoc]
                  exact h2
      · obtain ⟨hc1, hc2⟩ := not_or.1 hcond
        have hfst : fst = false := by simpa using hc1
        have hpk : pk s g2 = 93 := by simpa using hc2
        subst hfst
        have h1 := HR.out
        rw [setF, if_neg (by rintro ⟨_, h⟩; exact hcond h)] at h1
        simp only [List.append_nil] at h1
        obtain ⟨e1, e2⟩ := h1
        subst e1
        subst e2
        clear HR hcond hc1 hc2
        go_wp2_with fail
        refine (peek_any b s nv rv g2 _ hG2 hs).mono ?_
        rintro e w3 ⟨rfl, n3, rfl⟩
        have hpk' : ((pk s g2 : Int) != 93) = false := by simp; omega
        clear hpk
        go_wp2
        go_end0
        exact ⟨rfl, (hG2.drewN _).setAt _, by rw [objAt_other _ _ _ (Ne.symm hbk), objAt_drewN]; exact hO2, (hK2.drewN _).setCell (fun _ => Or.inl rfl) _⟩
    · have h1 := HR.out
      rw [setF, if_neg (by rintro ⟨h, _⟩; exact hb h)] at h1
      simp only [List.append_nil] at h1
      obtain ⟨e1, e2⟩ := h1
      subst e1
      subst e2
      clear HR
      go_wp2
      go_end0
      exact ⟨rfl, hG2.setAt _, by rw [objAt_other _ _ _ (Ne.symm hbk)]; exact hO2, hK2.setCell (fun _ => Or.inl rfl) _⟩

end Go.Proofs.Ytagklnaaoclmhaa
