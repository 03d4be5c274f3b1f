import Derived.Test.YtagklnaaoclmhaaCoeA
set_option linter.unusedSimpArgs false
set_option linter.unusedVariables false
namespace Go.Proofs.Ytagklnaaoclmhaa
open Go.RowKit

def rw8 (W : List Bool) (b : Nat) : Bool := W.getD b false
theorem rw8_set {W : List Bool} {r : Nat} (h : r < W.length) : stB (rw8 W) r true = rw8 (W.set r true) := by
  funext b
  unfold stB rw8
  by_cases hb : b = r
  · subst hb; rw [if_pos rfl, getD_set_same h]
  · rw [if_neg hb, getD_set_ne hb]
theorem drop_cons8 {l : List Nat} {q : Nat} (h : q < l.length) : l.drop q = l.getD q 0 :: l.drop (q + 1) := by
  rw [List.drop_eq_getElem_cons h]; simp [List.getD, List.getElem?_eq_getElem h]

def AbSaid (base gb : Nat) (rv : Value) (P : List Nat) (ρ : Nat → Int) (rs : List Rl) (ns : List Nd) (S : Nat → Bool) (f : Nat) : Prop := ∀ (p i lb : Nat) (M : Nat → Nat → Bool) (W : List Bool) (w : World), p < f → p < ns.length → i < 8 → W.length = 8 → Gm w base gb rv P ρ rs ns → w.heap[lb]? = some (.cells (mat (stR M i (rw8 W))) 83) →
  Calls Try.prog 43 #[.pointer (some ⟨P.getD p 0, 0, none⟩), .pointer (some ⟨lb, i * 8, none⟩), .agg (bl8 S)] w fun e w' => e = .returned (.tuple #[]) ∧ w'.heap[lb]? = some (.cells (mat (stR M i (rw8 (aB rs ns S f p W)))) 83) ∧ Kept (· = lb) w w'

theorem Gm.mat {w w' : World} {base gb lb : Nat} {rv : Value} {P : List Nat} {ρ : Nat → Int} {rs : List Rl} {ns : List Nd} {c : Array Value} (h : Gm w base gb rv P ρ rs ns) (hL : w.heap[lb]? = some (.cells c 83)) (hk : Kept (· = lb) w w') : Gm w' base gb rv P ρ rs ns :=
  h.kept hk (fun j c' t e ho => by
    have e' : j = lb := e
    rw [e', show objAt w lb = _ from hL] at ho
    simp at ho
    rw [← ho.2]; decide)

/-- While addBegins goes over the parts. -/
structure AbI (base gb : Nat) (rv : Value) (P : List Nat) (ρ : Nat → Int) (rs : List Rl) (ns : List Nd) (S : Nat → Bool) (i lb : Nat) (M : Nat → Nat → Bool) (w0 : World) (W : List Bool) (wx : World) : Prop where
  len : W.length = 8
  gm : Gm wx base gb rv P ρ rs ns
  row : wx.heap[lb]? = some (.cells (Go.Proofs.Ytagklnaaoclmhaa.mat (stR M i (rw8 W))) 83)
  box : wx.heap[w0.heap.size]? = some (.cells (bl8 S) 81)
  kept : Kept (· = lb) w0 wx
theorem AbI.turn {base gb i lb : Nat} {rv : Value} {P : List Nat} {ρ : Nat → Int} {rs : List Rl} {ns : List Nd} {S : Nat → Bool} {M : Nat → Nat → Bool} {w0 wx w' : World} {W W' : List Bool} (h : AbI base gb rv P ρ rs ns S i lb M w0 W wx) (hl : W'.length = 8) (hr : w'.heap[lb]? = some (.cells (Go.Proofs.Ytagklnaaoclmhaa.mat (stR M i (rw8 W'))) 83)) (hk : Kept (· = lb) wx w') (hlb : lb ≠ w0.heap.size) : AbI base gb rv P ρ rs ns S i lb M w0 W' w' :=
  ⟨hl, h.gm.mat h.row hk, hr, by rw [hk.block _ (objAt_lt (show objAt wx _ = _ from h.box)) (fun e => hlb e.symm)]; exact h.box, h.kept.trans hk⟩

set_option maxRecDepth 100000 in
set_option maxHeartbeats 6400000 in
theorem addBegins_step {base gb : Nat} {rv : Value} {P : List Nat} {ρ : Nat → Int} {rs : List Rl} {ns : List Nd} {S : Nat → Bool} {f : Nat} (hW : WfR ns rs) (hN : ∀ N ∈ ns, N.kind = 3 → (fndI rs N.name).isSome = true) (hρ : ∀ i, i < ns.length → (nth ns i).kind = 3 → ρ i = (ruI rs (nth ns i) : Int)) (hn : ns.length ≤ 5000) (hsl : ∀ i, i < ns.length → (nth ns i).subs.length ≤ 9223372036854775807) (IH : AbSaid base gb rv P ρ rs ns S f) : AbSaid base gb rv P ρ rs ns S (f + 1) := by
  intro p i lb M W w hf hp hi hWl hG hL
  obtain ⟨z, vR, vP, hpt, _, _, _, hPs, _⟩ := hG.ar.part p hp
  have hok := nth_ok hW.wf hp
  have hρi := hρ p hp
  have hru := fun h => ruI_lt hN hp h
  have hsl' := hsl p hp
  rw [← nth_get hp] at hpt hPs
  have hIE := fun (j : Nat) (X : World) (hj : j < ns.length) (h : Gm X base gb rv P ρ rs ns) => isEmpty_code (S := S) hW hN hρ hn hsl ns.length j X hj hj h
  obtain ⟨FIN, hFIN⟩ : ∃ FIN, aB rs ns S (f + 1) p W = FIN := ⟨_, rfl⟩
  have hF2 := hFIN
  rw [aB] at hF2
  rw [hFIN]
  obtain ⟨p0, p1, p4, p6⟩ := part_cells hpt
  have hll := objAt_lt (show objAt w lb = _ from hL)
  have hpl := objAt_lt (show objAt w _ = _ from hpt)
  generalize hNN : nth ns p = N at *
  generalize P.getD p 0 = pi at *
  clear hFIN hNN hρ
  have hne1 : pi ≠ w.heap.size := by omega
  have hne2 : lb ≠ w.heap.size := by omega
  have hne3 : pi ≠ lb := fun e => by
    subst e
    rw [hpt] at hL
    simp at hL
  -- the row behind the first step
  obtain ⟨pv, cv, hvP⟩ := ownsRow_form hPs
  have hkind := hok.kind
  have hkc0 : (kcode N.kind == 0) = decide (N.kind = 3) := by
    have : ∀ k, k ≤ 10 → (kcode k == 0) = decide (k = 3) := by decide
    exact this _ hkind
  have hkc5 : (kcode N.kind == 5) = decide (N.kind = 5) := by
    have : ∀ k, k ≤ 10 → (kcode k == 5) = decide (k = 5) := by decide
    exact this _ hkind
  have hIEq : ∀ (j pj : Nat) (X : World), j < ns.length → P.getD j 0 = pj → Gm X base gb rv P ρ rs ns → Calls Try.prog 42 #[.pointer (some ⟨pj, 0, none⟩), .agg (bl8 S)] X fun e w' => e = .returned (.bool (cE rs ns S ns.length j)) ∧ Kept (fun _ => False) X w' := fun j pj X hj hpj h => by rw [← hpj]; exact hIE j X hj h
  have HPS := hide (fun (X : World) (hK : Kept (· = lb) w X) => own_kept hPs hK (fun j hj e => by
    obtain ⟨c, hc⟩ := ownsRow_obj hPs hj
    have e' : j = lb := e
    rw [e', show objAt w lb = _ from hL] at hc
    simp at hc))
  have HLOW := hide (fun (k : Nat) (hk : k < N.subs.length) => hok.low _ (getD_mem hk))
  have IHH := hide IH
  have HPC := hide (fun (X : World) (hK : Kept (· = lb) w X) => (hK.cell (p := ⟨pi, 0, none⟩) hpl hne3).trans p0)
  have HK5 := hide (fun h : N.kind = 5 => (by rw [hkc5]; simpa using h : (kcode N.kind == 5) = true))
  have HN5 := hide (fun h : ¬ N.kind = 5 => (by rw [hkc5]; simpa using h : (kcode N.kind == 5) = false))
  have HBX := hide (fun (W' : List Bool) (wx : World) (h : AbI base gb rv P ρ rs ns S i lb M w W' wx) => HPC.out wx h.kept)
  have hA0 : AbI base gb rv P ρ rs ns S i lb M w W (w.alloc (.cells (bl8 S) 81)) := ⟨hWl, hG.same ((Kept.refl _ w).alloc _), by rw [Below.heap_alloc _ _ _ hll]; exact hL, heap_alloc_new _ _, (Kept.refl _ w).alloc _⟩
  have HIE := hide hIEq
  clear hIEq hIE IH hkc5
  subst hvP
  by_cases h3 : N.kind = 3
  · have q0 : (kcode N.kind == 0) = true := by rw [hkc0]; simpa using h3
    rw [if_pos h3] at hF2
    have h8 : ruI rs N < 8 := by have := hru h3; have := hW.len; omega
    rw [hρi h3] at p1
    have hL1 := matset hL hi h8 true
    rw [stR_stR, stR_at, rw8_set (by omega)] at hL1
    have hc := matcell hL hi h8
    have hfz := matfrozen (o := i * 8 + ruI rs N) hL
    have hk1 : Kept (· = lb) w (w.setCell ⟨lb, i * 8 + ruI rs N, none⟩ (.bool true)) := (Kept.refl (· = lb) w).setCell (p := ⟨lb, i * 8 + ruI rs N, none⟩) (fun _ => rfl) _
    have hs1 : (w.setCell ⟨lb, i * 8 + ruI rs N, none⟩ (.bool true)).heap.size = w.heap.size := by simp [World.setCell]
    have hA1 : AbI base gb rv P ρ rs ns S i lb M w (W.set (ruI rs N) true) ((w.setCell ⟨lb, i * 8 + ruI rs N, none⟩ (.bool true)).alloc (.cells (bl8 S) 81)) := ⟨by simp [hWl], (hG.mat hL hk1).same ((Kept.refl _ _).alloc _), by rw [Below.heap_alloc _ _ _ (by omega)]; exact hL1, by rw [← hs1]; exact heap_alloc_new _ _, hk1.alloc _⟩
    have HA1 := hide hA1
    have HF0 : Hid (aL (aB rs ns S f) (cE rs ns S ns.length) N.kind (N.subs.drop 0) (W.set (ruI rs N) true) = FIN) := hF2
    clear hA1 hL1 hF2 hA0 hru hρi h3 hkc0 hk1 hs1
    generalize ruI rs N = r at *
    have h8' : (r : Int) < 8 := by omega
    unfold bl8 at HA1 ⊢
    generalize hkcN : kcode N.kind = kc at *
    clear hkcN
    go_enter Try.func43, Try.ntmps43
    go_wp2
    go_region
    all_goals
      go_wp2
      go_loopg [25] N.subs.length (fun n v wx => ∃ (k : Nat) (W' : List Bool), Hid (k + n = N.subs.length) ∧ v = .int .i64 k ∧ AbI base gb rv P ρ rs ns S i lb M w W' wx ∧ Hid (aL (aB rs ns S f) (cE rs ns S ns.length) N.kind (N.subs.drop k) W' = FIN))
      case atStart => exact ⟨0, _, Nat.zero_add _, rfl, (HA1.out.turn HA1.out.len HA1.out.row ((Kept.refl (· = lb) _).drew) hne2), HF0.out⟩
      case round =>
        obtain ⟨k, W', hkn, rfl, hA, HF⟩ := hrel
        obtain ⟨m, hm⟩ : ∃ m, m = gk := ⟨gk, rfl⟩
        subst hm
        have hb0 := HBX.out _ _ hA
        by_cases hlt : k < N.subs.length
        · obtain ⟨sb, cap', hrv, r0⟩ := ptr_cell (HPS.out wr hA.kept) hlt
          simp only [Value.slice.injEq] at hrv
          obtain ⟨hp', _, hcap⟩ := hrv
          subst hp' hcap
          have hjl := HLOW.out k hlt
          have h1 := HF.out
          rw [drop_cons8 hlt, aL] at h1
          have H1 := hide h1
          clear h1 HF
          generalize N.subs.getD k 0 = j at *
          have hab := IHH.out j i lb M W' wr (by omega) (by omega) hi hA.len hA.gm hA.row
          have hlen7 : (aB rs ns S f j W').length = 8 := by rw [aB_len, hA.len]
          generalize aB rs ns S f j W' = W7 at *
          generalize hpj : P.getD j 0 = pj at *
          obtain ⟨b0, b1, b2, b3, b4, b5, b6, b7⟩ := cells8 hA.box
          unfold bl8 at hab
          go_wp2_with fail
          refine hab.mono ?_
          rintro e w7 ⟨rfl, hr7, hK7⟩
          have hA7 := hA.turn hlen7 hr7 hK7 hne2
          have hpc7 := HPC.out w7 hA7.kept
          clear hab
          by_cases h5 : N.kind = 5
          · have q5 := HK5.out h5
            have hie := HIE.out j pj w7 (by omega) hpj hA7.gm
            have hA8 := fun (X : World) (hK : Kept (fun _ => False) w7 X) => hA7.turn hlen7 (by rw [hK.block _ (objAt_lt (show objAt w7 _ = _ from hr7)) (fun x => x)]; exact hr7) (hK.mono (fun _ _ x => x.elim)) hne2
            obtain ⟨d0, d1, d2, d3, d4, d5, d6, d7⟩ := cells8 hA7.box
            have H2 := hide (fun (h : cE rs ns S ns.length j = false) => by
              have := H1.out
              rw [if_pos ⟨h5, h⟩] at this
              exact this : cE rs ns S ns.length j = false → W7 = FIN)
            have H3 := hide (fun (h : cE rs ns S ns.length j = true) => by
              have := H1.out
              rw [if_neg (by rw [h]; simp)] at this
              exact this : cE rs ns S ns.length j = true → aL (aB rs ns S f) (cE rs ns S ns.length) N.kind (N.subs.drop (k + 1)) W7 = FIN)
            clear H1 h5
            generalize hce : cE rs ns S ns.length j = ce at *
            unfold bl8 at hie
            go_wp2_with fail
            refine hie.mono ?_
            rintro e w8 ⟨rfl, hK8⟩
            have hA9 := hA8 w8 hK8
            cases ce
            · have H4 := hide (H2.out rfl)
              clear H2 H3
              go_wp2
              refine bodyPost_ret (v := .tuple #[]) (results_none rfl _ _ _) rfl ?_
              exact ⟨rfl, by rw [← H4.out]; exact hA9.row, hA9.kept⟩
            · have H4 := hide (H3.out rfl)
              clear H2 H3
              go_wp2
              go_roundg (m - 1)
              case measure => have := hkn.out; omega
              case rel => exact ⟨k + 1, W7, by have := hkn.out; unfold Hid; omega, by go_num, hA9, H4.out⟩
          · have q5 := HN5.out h5
            have H4 : Hid (aL (aB rs ns S f) (cE rs ns S ns.length) N.kind (N.subs.drop (k + 1)) W7 = FIN) := by
              have := H1.out
              rw [if_neg (fun x => h5 x.1)] at this
              exact this
            clear H1 h5
            go_wp2
            go_roundg (m - 1)
            case measure => have := hkn.out; omega
            case rel => exact ⟨k + 1, W7, by have := hkn.out; unfold Hid; omega, by go_num, hA7, H4.out⟩
        · have H4 : Hid (W' = FIN) := by
            have := HF.out
            rw [List.drop_of_length_le (by omega)] at this
            exact this
          clear HF
          go_wp2
          go_end0
          exact ⟨rfl, by rw [← H4.out]; exact hA.row, hA.kept⟩
  · have q0 : (kcode N.kind == 0) = false := by rw [hkc0]; simpa using h3
    rw [if_neg h3] at hF2
    have HA1 := hide hA0
    have HF0 : Hid (aL (aB rs ns S f) (cE rs ns S ns.length) N.kind (N.subs.drop 0) W = FIN) := hF2
    clear hF2 hA0 hru hρi h3 hkc0
    unfold bl8 at HA1 ⊢
    generalize hkcN : kcode N.kind = kc at *
    clear hkcN
    go_enter Try.func43, Try.ntmps43
    go_wp2
    go_loopg [25] N.subs.length (fun n v wx => ∃ (k : Nat) (W' : List Bool), Hid (k + n = N.subs.length) ∧ v = .int .i64 k ∧ AbI base gb rv P ρ rs ns S i lb M w W' wx ∧ Hid (aL (aB rs ns S f) (cE rs ns S ns.length) N.kind (N.subs.drop k) W' = FIN))
    case atStart => exact ⟨0, _, Nat.zero_add _, rfl, HA1.out, HF0.out⟩
    case round =>
      obtain ⟨k, W', hkn, rfl, hA, HF⟩ := hrel
      obtain ⟨m, hm⟩ : ∃ m, m = gk := ⟨gk, rfl⟩
      subst hm
      have hb0 := HBX.out _ _ hA
      by_cases hlt : k < N.subs.length
      · obtain ⟨sb, cap', hrv, r0⟩ := ptr_cell (HPS.out wr hA.kept) hlt
        simp only [Value.slice.injEq] at hrv
        obtain ⟨hp', _, hcap⟩ := hrv
        subst hp' hcap
        have hjl := HLOW.out k hlt
        have h1 := HF.out
        rw [drop_cons8 hlt, aL] at h1
        have H1 := hide h1
        clear h1 HF
        generalize N.subs.getD k 0 = j at *
        have hab := IHH.out j i lb M W' wr (by omega) (by omega) hi hA.len hA.gm hA.row
        have hlen7 : (aB rs ns S f j W').length = 8 := by rw [aB_len, hA.len]
        generalize aB rs ns S f j W' = W7 at *
        generalize hpj : P.getD j 0 = pj at *
        obtain ⟨b0, b1, b2, b3, b4, b5, b6, b7⟩ := cells8 hA.box
        unfold bl8 at hab
        go_wp2_with fail
        refine hab.mono ?_
        rintro e w7 ⟨rfl, hr7, hK7⟩
        have hA7 := hA.turn hlen7 hr7 hK7 hne2
        have hpc7 := HPC.out w7 hA7.kept
        clear hab
        by_cases h5 : N.kind = 5
        · have q5 := HK5.out h5
          have hie := HIE.out j pj w7 (by omega) hpj hA7.gm
          have hA8 := fun (X : World) (hK : Kept (fun _ => False) w7 X) => hA7.turn hlen7 (by rw [hK.block _ (objAt_lt (show objAt w7 _ = _ from hr7)) (fun x => x)]; exact hr7) (hK.mono (fun _ _ x => x.elim)) hne2
          obtain ⟨d0, d1, d2, d3, d4, d5, d6, d7⟩ := cells8 hA7.box
          have H2 := hide (fun (h : cE rs ns S ns.length j = false) => by
            have := H1.out
            rw [if_pos ⟨h5, h⟩] at this
            exact this : cE rs ns S ns.length j = false → W7 = FIN)
          have H3 := hide (fun (h : cE rs ns S ns.length j = true) => by
            have := H1.out
            rw [if_neg (by rw [h]; simp)] at this
            exact this : cE rs ns S ns.length j = true → aL (aB rs ns S f) (cE rs ns S ns.length) N.kind (N.subs.drop (k + 1)) W7 = FIN)
          clear H1 h5
          generalize hce : cE rs ns S ns.length j = ce at *
          unfold bl8 at hie
          go_wp2_with fail
          refine hie.mono ?_
          rintro e w8 ⟨rfl, hK8⟩
          have hA9 := hA8 w8 hK8
          cases ce
          · have H4 := hide (H2.out rfl)
            clear H2 H3
            go_wp2
            refine bodyPost_ret (v := .tuple #[]) (results_none rfl _ _ _) rfl ?_
            exact ⟨rfl, by rw [← H4.out]; exact hA9.row, hA9.kept⟩
          · have H4 := hide (H3.out rfl)
            clear H2 H3
            go_wp2
            go_roundg (m - 1)
            case measure => have := hkn.out; omega
            case rel => exact ⟨k + 1, W7, by have := hkn.out; unfold Hid; omega, by go_num, hA9, H4.out⟩
        · have q5 := HN5.out h5
          have H4 : Hid (aL (aB rs ns S f) (cE rs ns S ns.length) N.kind (N.subs.drop (k + 1)) W7 = FIN) := by
            have := H1.out
            rw [if_neg (fun x => h5 x.1)] at this
            exact this
          clear H1 h5
          go_wp2
          go_roundg (m - 1)
          case measure => have := hkn.out; omega
          case rel => exact ⟨k + 1, W7, by have := hkn.out; unfold Hid; omega, by go_num, hA7, H4.out⟩
      · have H4 : Hid (W' = FIN) := by
          have := HF.out
          rw [List.drop_of_length_le (by omega)] at this
          exact this
        clear HF
        go_wp2
        go_end0
        exact ⟨rfl, by rw [← H4.out]; exact hA.row, hA.kept⟩

/-- addBegins. -/
theorem addBegins_code {base gb : Nat} {rv : Value} {P : List Nat} {ρ : Nat → Int} {rs : List Rl} {ns : List Nd} {S : Nat → Bool} (hW : WfR ns rs) (hN : ∀ N ∈ ns, N.kind = 3 → (fndI rs N.name).isSome = true) (hρ : ∀ i, i < ns.length → (nth ns i).kind = 3 → ρ i = (ruI rs (nth ns i) : Int)) (hn : ns.length ≤ 5000) (hsl : ∀ i, i < ns.length → (nth ns i).subs.length ≤ 9223372036854775807) : ∀ f, AbSaid base gb rv P ρ rs ns S f
  | 0 => fun p i lb M W w hf => absurd hf (by omega)
  | f + 1 => addBegins_step hW hN hρ hn hsl (addBegins_code hW hN hρ hn hsl f)
end Go.Proofs.Ytagklnaaoclmhaa
