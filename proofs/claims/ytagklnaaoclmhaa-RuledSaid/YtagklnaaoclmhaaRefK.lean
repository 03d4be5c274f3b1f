import Derived.Test.YtagklnaaoclmhaaRefJ
set_option linter.unusedSimpArgs false
set_option linter.unusedVariables false
namespace Go.Proofs.Ytagklnaaoclmhaa
open Go.RowKit
attribute [local go_sem ↓] exec_load59 exec_alloc59 exec_store59 exec_build59 exec_buildSlice36
attribute [local go_sem] load59At_ptr load59Of_some store59At_ptr store59Of_some build59_nil build59_kind build59_term build59_name build59_subs buildSlice36_some objAt_drew objAt_drewN objAt_new objAt_old

set_option maxRecDepth 100000 in
set_option maxHeartbeats 6400000 in
/-- choice. -/
theorem cho_does {s : ByteArray} {ch : St → St × Nat} {d : Nat} (hgd : d = 0 ∨ Good s ch (d - 1)) (hseq : Does 33 s (seqM s ch) d) : Does 19 s (choM s ch) d := by
  intro base b nv rv U A w hR hO hd
  have hs := hO.size
  obtain ⟨i0, hi0, hz0, hz1, hz2⟩ := info_parts info3
  have HP : Hid (choM s ch A = addN (choF s ch (s.size + 3) [] A).1 { nd0 with kind := 4, subs := (choF s ch (s.size + 3) [] A).2 }) := rfl
  generalize choM s ch A = r at *
  have hz := z59_size
  have hc0 : NodeIs (z59.setIfInBounds 0 (.int .i64 4)) { nd0 with kind := 4 } (.slice none 0 0) := NodeIs.zero.setKind 4
  have hcs := hc0.size
  have ho := ones_of hc0.one
  generalize hcc : (z59.setIfInBounds 0 (.int .i64 4)) = c0 at *
  have Hcc := hide hcc
  clear hcc
  have hrow : ((w.alloc (.cells z59 59)).setRow w.heap.size c0) = w.alloc (.cells c0 59) := World.setRow_alloc_new w z59 c0 59
  have hbuild : build59r Try.prog [(0, .int .i64 4)] w = .ok (.value (.agg c0)) w := by rw [build59_kind, Hcc.out]
  obtain ⟨kb, hkb⟩ : ∃ kb, kb = w.heap.size := ⟨_, rfl⟩
  have hM : Mk (w.alloc (.cells c0 59)) base b kb w.heap.size 4 s nv rv U A [] c0 (.slice none 0 0) := by
    subst hkb
    refine ⟨hR.alloc _, objAt_new _ _, hc0, World.ownsRow_nil _ _ _ _, (fun k e => by cases e), (fun k e => by cases e), (fun e => ?_), Nat.le_refl _⟩
    obtain ⟨x, hx⟩ := hR.nvb e
    have := objAt_lt hx; omega
  have hS : Stp w.heap.size b nv nv U U w (w.alloc (.cells c0 59)) := Stp.only ((Kept.refl (· = b) w).alloc _)
  generalize hLL : choF s ch (s.size + 3) [] A = L at *
  have HL : Hid (choF s ch (s.size + 2 + 1) [] A = L) := hLL
  clear hLL
  go_enter Try.func19, Try.ntmps19
  go_wp2_with fail
  rw [← hkb]
  generalize hw0 : w.alloc (.cells c0 59) = w0 at *
  clear hw0 hrow hbuild ho hcs hz
  have Hkb := hide hkb
  clear hkb
  go_loopg [] (s.size + 2) (fun n wx => ∃ acc A6 nv6 U6 c6 v6, rk s A6.sc ≤ n ∧ acc.length + rk s A6.sc ≤ 402 ∧ Ok s A6 ∧ 5 ≤ A6.sc.op + d ∧ Mk wx base b kb w.heap.size 4 s nv6 rv U6 A6 acc c6 v6 ∧ Stp w.heap.size b nv nv6 U U6 w wx ∧ Hid (choF s ch (n + 1) acc A6 = L))
  case atStart => exact ⟨[], A, nv, U, c0, _, by have := rk_le s A.sc; omega, by have := rk_le s A.sc; simp; omega, hO, hd, hM, hS, HL⟩
  case round =>
    obtain ⟨acc, A6, nv6, U6, c6, v6, hrk, hal, hO6, hd6, hM6, hS6, HR⟩ := hrel
    obtain ⟨m, hm⟩ : ∃ m, m = gk := ⟨gk, rfl⟩
    subst hm
    have hfc := seq_fc hgd hO6.iv hd6
    have h1 := HR.out
    rw [choF] at h1
    have H1 := hide h1
    clear h1 HR
    have hal' : acc.length ≤ 402 := by omega
    go_wp2_with fail
    refine (hseq base b nv6 rv U6 A6 _ hM6.rg hO6 hd6).mono ?_
    rintro e w7 ⟨rfl, nv7, U7, hR7, hS7⟩
    have hM7 := hM6.step hS7 hR7
    have hS7' := hS6.join (Nat.le_refl _) (hS7.low hS6.kept.size)
    generalize seqM s ch A6 = X at *
    obtain ⟨B, x⟩ := X
    dsimp only at *
    have hcell := hM7.cell
    have hkw := objAt_lt hM7.obj
    have hHw : w.heap.size ≤ w7.heap.size := hS7'.kept.size
    have hbase := hM7.rg.hb
    go_wp2_with (at_builtin; refine wpList_append_lies _ rfl _ _ _ rfl base 3 i0 _ 1 8 Try.underlying57 hi0 hz0 hz1 hz2 rfl (by omega) v6 acc.length (acc.map intV) (by rfl) (hM7.own.alloc _) ⟨w7.heap.size, 0, none⟩ 1 1 [intV x] (by rfl) rfl (World.news_of_block (cs := #[.int .i64 (x : Int)]) (t := 3) (fr := (0, 0)) (heap_alloc_new w7 _)) (by simp [Value.oneCell', intV]) (by omega) (by simp [maxLen]; omega) (by omega) (by simp; omega) (w7.heap.size + 1) (by simp) ?_; intro gg cap w9 hown hgrow hat hlt; obtain ⟨hc9, hf9⟩ := hM7.cell9 hgrow)
    obtain ⟨hM10, hK10⟩ := hM7.app hHw hown hgrow hat
    have hS10 := hM7.stp hS7' hK10
    have hpt' := hfc.pot'
    have hpt6 := hO6.pt
    have hlenB : B.ns.length ≤ 3002 := by unfold Pt at hpt' hpt6; omega
    have hfg := hfc.sc (Fs.sg hfc.iv 47) (sg_t s B.sc 47)
    generalize hw10 : w9.setCell ⟨kb, 261, none⟩ (.slice (some ⟨gg, 0, none⟩) (acc.length + 1) cap) = w10 at *
    generalize hsl : Value.slice (some ⟨gg, 0, none⟩) (acc.length + 1) cap = v10 at *
    generalize hc10 : c6.setIfInBounds 261 v10 = c10 at *
    have hs10 := hM10.node.size
    have hex : c10.extract 0 262 = c10 := by rw [← hs10]; simp
    clear hw10 hsl hc10 hK10 hM7 hown hgrow hat hlt hc9 hf9 hcell hkw hbase hS7' hS7 hR7 hM6 hS6 hpt' hpt6
    refine (sign_any b s nv7 rv B.sc 47 _ hM10.rg.gis hs).mono ?_
    rintro e w11 ⟨rfl, hG11, hK11⟩
    have hM13 := hM10.sc hK11 hG11
    have hS13 := hS10.join (Nat.le_refl _) (Stp.only hK11)
    have hHw13 : w.heap.size ≤ w11.heap.size := hS13.kept.size
    have hO13 := hM13.obj
    clear hM10 hS10 hK11 hG11
    cases hsg : sgB s B.sc 47
    · have h1 := H1.out
      rw [hsg] at h1
      simp only [Bool.false_eq_true, if_false] at h1
      subst h1
      generalize sg s B.sc 47 = g at *
      clear H1 hrk hal hfg hsg
      go_wp2_with fail
      refine (addV (H := w.heap.size) hM13.rg hM13.node (by simpa using hM13.own) hM13.new (hHw13) (by dsimp only; omega)).mono ?_
      rintro e w14 ⟨rfl, nv14, U14, hR14, hS14⟩
      go_wp2
      go_ret
      exact ⟨by rw [HP.out]; rfl, nv14, U14, by rw [HP.out]; exact hR14, hS13.join (Nat.le_refl _) hS14⟩
    · have h1 := H1.out
      rw [hsg] at h1
      simp only [if_true] at h1
      have hgood : (sg s B.sc 47).bad < 0 := by rw [sg_bad]; exact (sgB_true hsg).1
      generalize sg s B.sc 47 = g at *
      have HF := hide h1
      have HX : Hid (rk s g < rk s A6.sc ∧ rk s A6.sc ≤ m ∧ acc.length + rk s A6.sc ≤ 402 ∧ Ok s { B with sc := g } ∧ 5 ≤ g.op + d) :=
        ⟨rk_lt hO6.iv (hfg.good hgood) (fun x => hfg.prog x), hrk, hal, hO6.next hfg hgood (by omega), by have := hfg.op; dsimp only at this; omega⟩
      clear h1 H1 hrk hal hfg hsg
      go_wp2
      go_roundg (m - 1)
      case measure => have := HX.out; omega
      case rel =>
        obtain ⟨x1, x2, x3, x4, x5⟩ := HX.out
        exact ⟨acc ++ [x], { B with sc := g }, nv7, U7, _, _, by dsimp only; omega, by simp; omega, x4, x5, hM13, hS13, by rw [show m - 1 + 1 = m by omega]; exact HF.out⟩

/-- choice, at every depth. -/
theorem choD_does (s : ByteArray) : ∀ d, Does 19 s (choD s (d + 1)) d
  | 0 => cho_does (d := 0) (Or.inl rfl) (seq_does (d := 0) (Or.inl rfl) (item_does (d := 0) (Or.inl rfl) (part_does (d := 0) (Or.inl rfl))))
  | d + 1 =>
    have hg : Good s (choD s (d + 1)) (d + 1 - 1) := choD_good s d
    have hd : Does 19 s (choD s (d + 1)) (d + 1 - 1) := choD_does s d
    cho_does (Or.inr hg) (seq_does (Or.inr hg) (item_does (Or.inr hg) (part_does (Or.inr ⟨hd, hg⟩))))

end Go.Proofs.Ytagklnaaoclmhaa
