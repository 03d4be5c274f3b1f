import Derived.Test.YtagklnaaoclmhaaRefI
set_option linter.unusedSimpArgs false
set_option linter.unusedVariables false
namespace Go.Proofs.Ytagklnaaoclmhaa
open Go.RowKit
attribute [local go_sem ↓] exec_load59 exec_alloc59 exec_store59 exec_build59 exec_buildSlice36
attribute [local go_sem] load59At_ptr load59Of_some store59At_ptr store59Of_some build59_nil build59_kind build59_term build59_name build59_subs buildSlice36_some objAt_drew objAt_drewN objAt_new objAt_old

theorem info3 : (Try.prog.info? 3).map (fun i => (i.zero, i.size, i.bytes)) = some (some (.int .i64 0), 1, 8) := by kernel_rfl

/-- A list of parts that is being made, beside the ref's grammar. -/
structure Mk (w : World) (base b kb H q : Nat) (s : ByteArray) (nv rv : Value) (U : Nat → Prop) (A : St) (acc : List Nat) (c : Array Value) (v : Value) : Prop where
  rg : RG w base b s nv rv U A
  obj : objAt w kb = some (.cells c 59 (0, 0))
  node : NodeIs c { nd0 with kind := q, subs := acc } v
  own : w.ownsRow base 3 1 v acc.length (acc.map intV)
  new : ∀ k, v.ownBlock = some k → H ≤ k
  not : ∀ k, v.ownBlock = some k → ¬ U k
  nvk : nv.ownBlock ≠ some kb
  kH : H ≤ kb

theorem Mk.bk {w : World} {base b kb H q : Nat} {s : ByteArray} {nv rv : Value} {U : Nat → Prop} {A : St} {acc : List Nat} {c : Array Value} {v : Value} (h : Mk w base b kb H q s nv rv U A acc c v) : b ≠ kb := by
  rintro rfl
  obtain ⟨y, hy⟩ := h.rg.gis.obj
  rw [h.obj] at hy; simp at hy
theorem Mk.vk {w : World} {base b kb H q : Nat} {s : ByteArray} {nv rv : Value} {U : Nat → Prop} {A : St} {acc : List Nat} {c : Array Value} {v : Value} (h : Mk w base b kb H q s nv rv U A acc c v) : v.ownBlock ≠ some kb := by
  intro e
  obtain ⟨x, hx⟩ := ownsRow_obj h.own e
  rw [h.obj] at hx; simp at hx
theorem Mk.cell {w : World} {base b kb H q : Nat} {s : ByteArray} {nv rv : Value} {U : Nat → Prop} {A : St} {acc : List Nat} {c : Array Value} {v : Value} (h : Mk w base b kb H q s nv rv U A acc c v) : w.cell? ⟨kb, 261, none⟩ = some v := by
  rw [objAt_cell h.obj]; exact h.node.subs

/-- Behind a step of the grammar's. -/
theorem Mk.step {w w' : World} {base b kb H q : Nat} {s : ByteArray} {nv nv' rv : Value} {U U' : Nat → Prop} {A A' : St} {acc : List Nat} {c : Array Value} {v : Value} (h : Mk w base b kb H q s nv rv U A acc c v)
    (hS : Stp w.heap.size b nv nv' U U' w w') (hR : RG w' base b s nv' rv U' A') : Mk w' base b kb H q s nv' rv U' A' acc c v where
  rg := hR
  obj := objAt_kept h.obj hS.kept (by
    rintro (e | e)
    · exact h.bk e.symm
    · exact h.nvk e)
  node := h.node
  own := ownsRow_kept h.own hS.kept (fun k e => by
    obtain ⟨x, hx⟩ := ownsRow_obj h.own e
    rintro (e' | e')
    · subst e'
      obtain ⟨y, hy⟩ := h.rg.gis.obj
      rw [hx] at hy; simp at hy
    · obtain ⟨y, hy⟩ := h.rg.nvb e'
      rw [hx] at hy; simp at hy)
  new := h.new
  not := fun k e hu => by
    rcases hS.sub k hu with h1 | h1
    · exact h.not k e h1
    · have := (h.own.lt k e).2; omega
  nvk := fun e => by
    rcases hS.new kb e with h1 | h1
    · exact h.nvk h1
    · have := objAt_lt h.obj; omega
  kH := h.kH

/-- One part more. -/
theorem Mk.app {w w9 : World} {base b kb H q x gg cap : Nat} {s : ByteArray} {nv rv : Value} {U : Nat → Prop} {A : St} {acc : List Nat} {c : Array Value} {v : Value} {o : Obj} (h : Mk w base b kb H q s nv rv U A acc c v) (hH : H ≤ w.heap.size)
    (hown : w9.ownsRow base 3 1 (.slice (some ⟨gg, 0, none⟩) (acc.length + 1) cap) (acc.length + 1) (acc.map intV ++ [intV x])) (hgrow : (w.alloc o).grownBy w9 v.ownBlock) (hat : v.ownBlock = some gg ∨ gg = w.heap.size + 1) :
    Mk (w9.setCell ⟨kb, 261, none⟩ (.slice (some ⟨gg, 0, none⟩) (acc.length + 1) cap)) base b kb H q s nv rv U A (acc ++ [x]) (c.setIfInBounds 261 (.slice (some ⟨gg, 0, none⟩) (acc.length + 1) cap)) (.slice (some ⟨gg, 0, none⟩) (acc.length + 1) cap) ∧
    Kept (fun k => k = kb ∨ v.ownBlock = some k) w (w9.setCell ⟨kb, 261, none⟩ (.slice (some ⟨gg, 0, none⟩) (acc.length + 1) cap)) := by
  have hK9 : Kept (fun k => k = kb ∨ v.ownBlock = some k) w w9 := ((Kept.refl _ w).alloc o).grown hgrow (fun k e _ => Or.inr e)
  have hK : Kept (fun k => k = kb ∨ v.ownBlock = some k) w (w9.setCell ⟨kb, 261, none⟩ (.slice (some ⟨gg, 0, none⟩) (acc.length + 1) cap)) := hK9.setCell (fun _ => Or.inl rfl) _
  have hobj9 : objAt w9 kb = some (.cells c 59 (0, 0)) := by
    have h0 := h.obj
    have hlt := objAt_lt h0
    have := hgrow.block kb (by simp; omega) (fun e => h.vk e.symm)
    show w9.heap[kb]? = _
    rw [this]
    have h1 := objAt_old w o hlt
    rw [h0] at h1
    exact h1
  have hgk : gg ≠ kb := by
    rintro rfl
    rcases hat with e | e
    · exact h.vk e
    · have := objAt_lt h.obj; omega
  have hnv : ∀ k, nv.ownBlock = some k → ¬ (k = kb ∨ v.ownBlock = some k) := fun k e => by
    rintro (e' | e')
    · subst e'; exact h.nvk e
    · obtain ⟨x, hx⟩ := h.rg.nvb e
      obtain ⟨y, hy⟩ := ownsRow_obj h.own e'
      rw [hx] at hy; simp at hy
  have hb : ¬ (b = kb ∨ v.ownBlock = some b) := by
    rintro (e' | e')
    · exact h.bk e'
    · obtain ⟨x, hx⟩ := h.rg.gis.obj
      obtain ⟨y, hy⟩ := ownsRow_obj h.own e'
      rw [hx] at hy; simp at hy
  refine ⟨⟨?_, objAt_set hobj9 _, h.node.setSubs (acc ++ [x]) _ _ _, ?_, fun k e => ?_, fun k e => ?_, h.nvk, h.kH⟩, hK⟩
  · exact h.rg.turn hK (h.rg.gis.kept hK hb) hnv (fun k c' hu ho => by
      rintro (e' | e')
      · subst e'; rw [h.obj] at ho; simp at ho
      · exact h.not k e' hu)
  · have := ownsRow_setCell_other hown (a := ⟨kb, 261, none⟩) (by simp only [Value.ownBlock]; intro e; simp at e; exact hgk e) (.slice (some ⟨gg, 0, none⟩) (acc.length + 1) cap)
    simpa using this
  · simp only [Value.ownBlock, Option.some.injEq] at e
    subst e
    rcases hat with e' | e'
    · exact h.new _ e'
    · omega
  · simp only [Value.ownBlock, Option.some.injEq] at e
    subst e
    intro hu
    rcases hat with e' | e'
    · exact h.not _ e' hu
    · have := h.rg.low _ hu; omega

theorem Mk.cell9 {w w9 : World} {base b kb H q : Nat} {s : ByteArray} {nv rv : Value} {U : Nat → Prop} {A : St} {acc : List Nat} {c : Array Value} {v : Value} {o : Obj} (h : Mk w base b kb H q s nv rv U A acc c v) (hgrow : (w.alloc o).grownBy w9 v.ownBlock) :
    w9.cell? ⟨kb, 261, none⟩ = some v ∧ w9.frozen? ⟨kb, 261, none⟩ = false := by
  have hobj9 : objAt w9 kb = some (.cells c 59 (0, 0)) := by
    have h0 := h.obj
    have hlt := objAt_lt h0
    have := hgrow.block kb (by simp; omega) (fun e => h.vk e.symm)
    show w9.heap[kb]? = _
    rw [this]
    have h1 := objAt_old w o hlt
    rw [h0] at h1
    exact h1
  exact ⟨by rw [objAt_cell hobj9]; exact h.node.subs, objAt_frozen hobj9⟩
theorem Mk.stp {w w7 w10 : World} {base b kb q : Nat} {s : ByteArray} {nv0 nv rv : Value} {U0 U : Nat → Prop} {A : St} {acc : List Nat} {c : Array Value} {v : Value} (h : Mk w7 base b kb w.heap.size q s nv rv U A acc c v) (hS : Stp w.heap.size b nv0 nv U0 U w w7) (hK : Kept (fun k => k = kb ∨ v.ownBlock = some k) w7 w10) : Stp w.heap.size b nv0 nv U0 U w w10 :=
  ⟨hS.kept.then hK (fun i hi e => by
    rcases e with e | e
    · have := h.kH; omega
    · have := h.new i e; omega), hS.new, hS.sub⟩
theorem Mk.same {w : World} {base b kb H q : Nat} {s : ByteArray} {nv rv : Value} {U : Nat → Prop} {A : St} {acc : List Nat} {c : Array Value} {v : Value} (h : Mk w base b kb H q s nv rv U A acc c v) (n : Nat) : Mk (w.drewN n) base b kb H q s nv rv U A acc c v :=
  h.step (Stp.only ((Kept.refl (· = b) w).drewN n)) (h.rg.same n)
theorem Mk.sc {w w' : World} {base b kb H q : Nat} {s : ByteArray} {nv rv : Value} {U : Nat → Prop} {A : St} {acc : List Nat} {c : Array Value} {v : Value} (h : Mk w base b kb H q s nv rv U A acc c v) (hk : Kept (· = b) w w') {g : Sc} (hg : Gis w' b s nv rv g) : Mk w' base b kb H q s nv rv U { A with sc := g } acc c v :=
  h.step (Stp.only hk) (h.rg.only hk hg)

theorem Ok.next {s : ByteArray} {A B : St} {k j : Nat} (h : Ok s A) (f : Fc s A B k j) (hb : B.sc.bad < 0) (hk : 3 ≤ k) : Ok s B := by
  have h1 := f.pot (f.good hb)
  have h2 := h.pt
  have h3 := f.tn
  have h4 := h.t
  have h5 := f.op
  have h6 := h.op
  exact ⟨f.iv, by omega, by omega, by omega, h.size⟩

set_option maxRecDepth 100000 in
set_option maxHeartbeats 6400000 in
/-- sequence. -/
theorem seq_does {s : ByteArray} {ch : St → St × Nat} {d : Nat} (hgd : d = 0 ∨ Good s ch (d - 1)) (hitem : Does 48 s (itemM s ch) d) : Does 33 s (seqM s ch) d := by
  intro base b nv rv U A w hR hO hd
  have hs := hO.size
  obtain ⟨i0, hi0, hz0, hz1, hz2⟩ := info_parts info3
  have HP : Hid (seqM s ch A = addN (seqF s ch (s.size + 3) [] A).1 { nd0 with kind := 5, subs := (seqF s ch (s.size + 3) [] A).2 }) := rfl
  generalize seqM s ch A = r at *
  have hz := z59_size
  have hc0 : NodeIs (z59.setIfInBounds 0 (.int .i64 5)) { nd0 with kind := 5 } (.slice none 0 0) := NodeIs.zero.setKind 5
  have hcs := hc0.size
  have ho := ones_of hc0.one
  generalize hcc : (z59.setIfInBounds 0 (.int .i64 5)) = c0 at *
  have Hcc := hide hcc
  clear hcc
  have hrow : ((w.alloc (.cells z59 59)).setRow w.heap.size c0) = w.alloc (.cells c0 59) := World.setRow_alloc_new w z59 c0 59
  have hbuild : build59r Try.prog [(0, .int .i64 5)] w = .ok (.value (.agg c0)) w := by rw [build59_kind, Hcc.out]
  obtain ⟨kb, hkb⟩ : ∃ kb, kb = w.heap.size := ⟨_, rfl⟩
  have hM : Mk (w.alloc (.cells c0 59)) base b kb w.heap.size 5 s nv rv U A [] c0 (.slice none 0 0) := by
    subst hkb
    refine ⟨hR.alloc _, objAt_new _ _, hc0, World.ownsRow_nil _ _ _ _, (fun k e => by cases e), (fun k e => by cases e), (fun e => ?_), Nat.le_refl _⟩
    obtain ⟨x, hx⟩ := hR.nvb e
    have := objAt_lt hx; omega
  have hS : Stp w.heap.size b nv nv U U w (w.alloc (.cells c0 59)) := Stp.only ((Kept.refl (· = b) w).alloc _)
  generalize hLL : seqF s ch (s.size + 3) [] A = L at *
  have HL : Hid (seqF s ch (s.size + 2 + 1) [] A = L) := hLL
  clear hLL
  go_enter Try.func33, Try.ntmps33
  go_wp2_with fail
  rw [← hkb]
  generalize hw0 : w.alloc (.cells c0 59) = w0 at *
  clear hw0 hrow hbuild ho hcs hz
  have Hkb := hide hkb
  clear hkb
  go_loopg [] (s.size + 2) (fun n wx => ∃ acc A6 nv6 U6 c6 v6, rk s A6.sc ≤ n ∧ acc.length + rk s A6.sc ≤ 402 ∧ Ok s A6 ∧ 5 ≤ A6.sc.op + d ∧ Mk wx base b kb w.heap.size 5 s nv6 rv U6 A6 acc c6 v6 ∧ Stp w.heap.size b nv nv6 U U6 w wx ∧ Hid (seqF s ch (n + 1) acc A6 = L))
  case atStart => exact ⟨[], A, nv, U, c0, _, by have := rk_le s A.sc; omega, by have := rk_le s A.sc; simp; omega, hO, hd, hM, hS, HL⟩
  case round =>
    obtain ⟨acc, A6, nv6, U6, c6, v6, hrk, hal, hO6, hd6, hM6, hS6, HR⟩ := hrel
    obtain ⟨m, hm⟩ : ∃ m, m = gk := ⟨gk, rfl⟩
    subst hm
    have hfc := item_fc hgd hO6.iv hd6
    have h1 := HR.out
    rw [seqF] at h1
    have H1 := hide h1
    clear h1 HR
    have hal' : acc.length ≤ 402 := by omega
    go_wp2_with fail
    refine (hitem base b nv6 rv U6 A6 _ hM6.rg hO6 hd6).mono ?_
    rintro e w7 ⟨rfl, nv7, U7, hR7, hS7⟩
    have hM7 := hM6.step hS7 hR7
    have hS7' := hS6.join (Nat.le_refl _) (hS7.low hS6.kept.size)
    generalize itemM s ch A6 = X at *
    obtain ⟨B, x⟩ := X
    dsimp only at *
    have hcell := hM7.cell
    have hkw := objAt_lt hM7.obj
    have hHw : w.heap.size ≤ w7.heap.size := hS7'.kept.size
    have hbase := hM7.rg.hb
    go_wp2_with (at_builtin; refine wpList_append_lies _ rfl _ _ _ rfl base 3 i0 _ 1 8 Try.underlying57 hi0 hz0 hz1 hz2 rfl (by omega) v6 acc.length (acc.map intV) (by rfl) (hM7.own.alloc _) ⟨w7.heap.size, 0, none⟩ 1 1 [intV x] (by rfl) rfl (World.news_of_block (cs := #[.int .i64 (x : Int)]) (t := 3) (fr := (0, 0)) (heap_alloc_new w7 _)) (by simp [Value.oneCell', intV]) (by omega) (by simp [maxLen]; omega) (by omega) (by simp; omega) (w7.heap.size + 1) (by simp) ?_; intro gg cap w9 hown hgrow hat hlt; obtain ⟨hc9, hf9⟩ := hM7.cell9 hgrow)
    obtain ⟨hM10, hK10⟩ := hM7.app hHw hown hgrow hat
    have hS10 := hM7.stp hS7' hK10
    have hpt' := hfc.pot'
    have hpt6 := hO6.pt
    have hlenB : B.ns.length ≤ 3001 := by unfold Pt at hpt' hpt6; omega
    have hfg := hfc.sc (Fs.bl hfc.iv) (bl_t s B.sc)
    generalize hw10 : w9.setCell ⟨kb, 261, none⟩ (.slice (some ⟨gg, 0, none⟩) (acc.length + 1) cap) = w10 at *
    generalize hsl : Value.slice (some ⟨gg, 0, none⟩) (acc.length + 1) cap = v10 at *
    generalize hc10 : c6.setIfInBounds 261 v10 = c10 at *
    have hs10 := hM10.node.size
    have hex : c10.extract 0 262 = c10 := by rw [← hs10]; simp
    clear hw10 hsl hc10 hK10 hM7 hown hgrow hat hlt hc9 hf9 hcell hkw hbase hS7' hS7 hR7 hM6 hS6 hpt' hpt6
    refine (blanks_any b s nv7 rv B.sc _ hM10.rg.gis hs).mono ?_
    rintro e w11 ⟨rfl, hG11, hK11⟩
    have hM11 := hM10.sc hK11 hG11
    have hS11 := hS10.join (Nat.le_refl _) (Stp.only hK11)
    generalize bl s B.sc = g at *
    clear hM10 hS10 hK11 hG11
    go_wp2_with fail
    refine (peek_any b s nv7 rv g _ hM11.rg.gis hs).mono ?_
    rintro e w12 ⟨rfl, n12, rfl⟩
    go_wp2_with fail
    refine (more_any b s nv7 rv g _ (hM11.same n12).rg.gis hs).mono ?_
    rintro e w13 ⟨rfl, n13, rfl⟩
    have hM13 := (hM11.same n12).same n13
    have hS13 : Stp w.heap.size b nv nv7 U U7 w ((w11.drewN n12).drewN n13) := (hS11.join (Nat.le_refl _) (Stp.only ((Kept.refl (· = b) _).drewN n12))).join (Nat.le_refl _) (Stp.only ((Kept.refl (· = b) _).drewN n13))
    have hHw13 : w.heap.size ≤ ((w11.drewN n12).drewN n13).heap.size := hS13.kept.size
    generalize hw13 : (w11.drewN n12).drewN n13 = w13 at *
    clear hw13 hM11 hS11
    obtain ⟨d0, d1, d2, d3, d4, d5, d6⟩ := hM13.rg.gis.cells
    have hO13 := hM13.obj

    cases hmo : moreB s g
    · have hse : seqEnd s g = true := by simp [seqEnd, hmo]
      have h1 := H1.out
      rw [hse] at h1
      simp only [if_true] at h1
      subst h1
      clear H1 hse hrk hal hfg
      go_wp2_with fail
      refine (addV (H := w.heap.size) hM13.rg hM13.node (by simpa using hM13.own) hM13.new (hHw13) (by dsimp only; omega)).mono ?_
      rintro e w14 ⟨rfl, nv14, U14, hR14, hS14⟩
      go_wp2
      go_ret
      exact ⟨by rw [HP.out]; rfl, nv14, U14, by rw [HP.out]; exact hR14, hS13.join (Nat.le_refl _) hS14⟩
    · by_cases h10 : pk s g = 10
      · have q10 : ((pk s g : Int) == 10) = true := by simp; omega
        have hse : seqEnd s g = true := by simp [seqEnd, hmo, h10]
        have h1 := H1.out
        rw [hse] at h1
        simp only [if_true] at h1
        subst h1
        clear h10 H1 hse hrk hal hfg
        go_wp2_with fail
        refine (addV (H := w.heap.size) hM13.rg hM13.node (by simpa using hM13.own) hM13.new (hHw13) (by dsimp only; omega)).mono ?_
        rintro e w14 ⟨rfl, nv14, U14, hR14, hS14⟩
        go_wp2
        go_ret
        exact ⟨by rw [HP.out]; rfl, nv14, U14, by rw [HP.out]; exact hR14, hS13.join (Nat.le_refl _) hS14⟩
      · have q10 : ((pk s g : Int) == 10) = false := by simp; omega
        by_cases h47 : pk s g = 47
        · have q47 : ((pk s g : Int) == 47) = true := by simp; omega
          have hse : seqEnd s g = true := by simp [seqEnd, hmo, h47]
          have h1 := H1.out
          rw [hse] at h1
          simp only [if_true] at h1
          subst h1
          clear h47 H1 hse hrk hal hfg
          go_wp2_with fail
          refine (addV (H := w.heap.size) hM13.rg hM13.node (by simpa using hM13.own) hM13.new (hHw13) (by dsimp only; omega)).mono ?_
          rintro e w14 ⟨rfl, nv14, U14, hR14, hS14⟩
          go_wp2
          go_ret
          exact ⟨by rw [HP.out]; rfl, nv14, U14, by rw [HP.out]; exact hR14, hS13.join (Nat.le_refl _) hS14⟩
        · have q47 : ((pk s g : Int) == 47) = false := by simp; omega
          by_cases h41 : pk s g = 41
          · have q41 : ((pk s g : Int) == 41) = true := by simp; omega
            by_cases hop : 0 < g.op
            · have qop : decide ((0 : Int) < (g.op : Int)) = true := by simp; omega
              have hse : seqEnd s g = true := by simp [seqEnd, hmo, h41, hop]
              have h1 := H1.out
              rw [hse] at h1
              simp only [if_true] at h1
              subst h1
              clear h41 H1 hse hrk hal hfg
              go_wp2_with fail
              refine (addV (H := w.heap.size) hM13.rg hM13.node (by simpa using hM13.own) hM13.new (hHw13) (by dsimp only; omega)).mono ?_
              rintro e w14 ⟨rfl, nv14, U14, hR14, hS14⟩
              go_wp2
              go_ret
              exact ⟨by rw [HP.out]; rfl, nv14, U14, by rw [HP.out]; exact hR14, hS13.join (Nat.le_refl _) hS14⟩
            · have qop : decide ((0 : Int) < (g.op : Int)) = false := by simp; omega
              have hse : seqEnd s g = false := by simp [seqEnd, hmo, h10, h47, h41, hop] <;> omega
              have h1 := H1.out
              rw [hse] at h1
              simp only [Bool.false_eq_true, if_false] at h1
              have HF := hide h1
              have hgood := (moreB_true.1 hmo).1
              have HX : Hid (rk s g < rk s A6.sc ∧ rk s A6.sc ≤ m ∧ acc.length + rk s A6.sc ≤ 402 ∧ Ok s { B with sc := g } ∧ 5 ≤ g.op + d) :=
                ⟨rk_lt hO6.iv (hfg.good hgood) (fun x => hfg.prog x), hrk, hal, hO6.next hfg hgood (by omega), by have := hfg.op; dsimp only at this; omega⟩
              clear h41 h1 H1 hse hrk hal hfg
              go_wp2
              go_roundg (m - 1)
              case measure => have := HX.out; omega
              case rel =>
                obtain ⟨x1, x2, x3, x4, x5⟩ := HX.out
                exact ⟨acc ++ [x], { B with sc := g }, nv7, U7, _, _, by dsimp only; omega, by simp; omega, x4, x5, hM13, hS13, by rw [show m - 1 + 1 = m by omega]; exact HF.out⟩
          · have q41 : ((pk s g : Int) == 41) = false := by simp; omega
            have hse : seqEnd s g = false := by simp [seqEnd, hmo, h10, h47, h41] 
            have h1 := H1.out
            rw [hse] at h1
            simp only [Bool.false_eq_true, if_false] at h1
            have HF := hide h1
            have hgood := (moreB_true.1 hmo).1
            have HX : Hid (rk s g < rk s A6.sc ∧ rk s A6.sc ≤ m ∧ acc.length + rk s A6.sc ≤ 402 ∧ Ok s { B with sc := g } ∧ 5 ≤ g.op + d) :=
              ⟨rk_lt hO6.iv (hfg.good hgood) (fun x => hfg.prog x), hrk, hal, hO6.next hfg hgood (by omega), by have := hfg.op; dsimp only at this; omega⟩
            clear h41 h1 H1 hse hrk hal hfg
            go_wp2
            go_roundg (m - 1)
            case measure => have := HX.out; omega
            case rel =>
              obtain ⟨x1, x2, x3, x4, x5⟩ := HX.out
              exact ⟨acc ++ [x], { B with sc := g }, nv7, U7, _, _, by dsimp only; omega, by simp; omega, x4, x5, hM13, hS13, by rw [show m - 1 + 1 = m by omega]; exact HF.out⟩

end Go.Proofs.Ytagklnaaoclmhaa
