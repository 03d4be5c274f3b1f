import Derived.Test.YtagklnaaoclmhaaGreatDoorMgAU
import Derived.Test.YtagklnaaoclmhaaGreatDoorMgAY
set_option linter.unusedSimpArgs false
set_option linter.unusedVariables false
namespace Go.Proofs.YtagklnaaoclmhaaGreatDoor
open Go.RowKit

def nodC (n : NoI) : List Value := [.int .i64 (n.rule : Int), .int .i64 (n.from_ : Int), .int .i64 n.to, .int .i64 (n.dep : Int)]
theorem info61 : (Tryz.prog.info? 61).map (fun i => (i.zero, i.size, i.bytes)) = some (some (.agg #[.int .i64 0, .int .i64 0, .int .i64 0, .int .i64 0]), 4, 32) := by kernel_rfl
theorem flR_len (dp : Nat) (r : Rs) : (flR dp r).length = (flR 0 r).length := by
  have := flR_sh dp r 0
  rw [Nat.zero_add] at this
  rw [this, List.length_map]
theorem flL_len (dp : Nat) (l : List Rs) : (flL dp l).length = (flL 0 l).length := by
  have := flL_sh dp l 0
  rw [Nat.zero_add] at this
  rw [this, List.length_map]
theorem flL_get (dp : Nat) : ∀ (l : List Rs) (i : Nat) (h : i < l.length), (flR dp l[i]).length ≤ (flL dp l).length
  | [], i, h => absurd h (by simp)
  | r :: l, 0, h => by rw [flL]; simp
  | r :: l, i + 1, h => by
    rw [flL, List.length_append]
    have := flL_get dp l i (by simpa using h)
    simp only [List.getElem_cons_succ]
    omega
structure AtOut (base n : Nat) (xs : List Value) (v : Value) (F : List NoI) (w : World) (e : Ending) (w' : World) : Prop where
  ex : ∃ v', e = .returned v' ∧ w'.ownsRow base 61 4 v' (n + F.length) (xs ++ F.flatMap nodC) ∧ (∀ k, v'.ownBlock = some k → v.ownBlock = some k ∨ w.heap.size ≤ k)
  kept : Kept (fun k => v.ownBlock = some k) w w'
structure AdI (base n : Nat) (xs : List Value) (v0 : Value) (F : List NoI) (w : World) (v : Value) (wx : World) : Prop where
  own : wx.ownsRow base 61 4 v (n + F.length) (xs ++ F.flatMap nodC)
  grow : ∀ k, v.ownBlock = some k → v0.ownBlock = some k ∨ w.heap.size ≤ k
  kept : Kept (fun k => v0.ownBlock = some k) w wx
theorem AdI.rs {base n n0 : Nat} {xs xs0 : List Value} {v0 v : Value} {F : List NoI} {w wx : World} (h : AdI base n xs v0 F w v wx) (h0 : w.ownsRow base 61 4 v0 n0 xs0) {m : Option Nat} {b : Nat} {r : Rs} (hr : RsAt w m b r) : RsAt wx m b r :=
  hr.kept h.kept (fun j c hj e => by
    obtain ⟨c2, hc⟩ := ownsRow_obj h0 e
    have hc2 : w.heap[j]? = _ := hc
    rw [hj] at hc2; simp at hc2) (fun j c hj hm => ⟨fun e => by
    obtain ⟨c2, hc⟩ := ownsRow_obj h0 e
    have hc2 : w.heap[j]? = _ := hc
    rw [hj] at hc2; simp at hc2, hm⟩)

set_option maxRecDepth 100000 in
set_option maxHeartbeats 3200000 in
theorem addTo_any (m : Option Nat) : ∀ (N : Nat) (r : Rs) (b dp n base : Nat) (v : Value) (xs : List Value) (w : World), (flR 0 r).length ≤ N → RsAt w m b r → w.ownsRow base 61 4 v n xs → base ≤ w.heap.size → dp ≤ n → n + (flR 0 r).length ≤ 100000 →
    Calls Tryz.prog 107 #[ptB' b, v, .int .i64 (dp : Int)] w fun e w' => AtOut base n xs v (flR dp r) w e w'
  | 0, r, b, dp, n, base, v, xs, w, hN, _, _, _, _, _ => by rw [flR_eq] at hN; simp at hN
  | N + 1, r, b, dp, n, base, v, xs, w, hN, hR, hO, hb0, hdp, hn => by
    obtain ⟨i0, hi0, hz0, hz1, hz2⟩ := info_parts info61
    have hFl : (flR 0 r).length = 1 + (flL 0 r.inner).length := by rw [flR_eq, List.length_cons, flL_len]; omega
    obtain ⟨c0, c1, c2, _⟩ := hR.cells
    obtain ⟨p, cp, hv⟩ := ownsRow_form hO
    have HF : Hid (flR dp r = [⟨r.rule, r.from_, r.to, dp⟩] ++ flL (dp + 1) r.inner) := by unfold Hid; rw [flR_eq]; rfl
    obtain ⟨v4, IB, hc4, hIn, hlen, hsub⟩ : ∃ v4 IB, w.cell? ⟨b, 4, none⟩ = some v4 ∧ InAt w m v4 IB ∧ IB.length = r.inner.length ∧ ∀ i (h : i < IB.length) (h' : i < r.inner.length), RsAt w m IB[i] r.inner[i] := by
      cases hR with
      | mk blk row len sub => exact ⟨_, _, by simp [World.cell?, blk], row, len, sub⟩
    have hbl := hR.lt
    subst hv
    have hbn : ¬ (Value.slice p n cp).ownBlock = some b := fun e => by
      obtain ⟨c2, hc⟩ := ownsRow_obj hO e
      have hc2 : w.heap[b]? = _ := hc
      cases hR with
      | mk blk row len sub => rw [blk] at hc2; simp at hc2
    have hfar : ∀ w9 o, ((w.alloc o).drew).grownBy w9 (Value.slice p n cp).ownBlock → Kept (fun k => (Value.slice p n cp).ownBlock = some k) w w9 := fun w9 o hg => (((Kept.refl _ w).alloc _).drew).grown hg (fun k h _ => h)
    have hcell : ∀ w9, Kept (fun k => (Value.slice p n cp).ownBlock = some k) w w9 → w9.cell? ⟨b, 0, none⟩ = some (.int .i64 (r.rule : Int)) ∧ w9.cell? ⟨b, 1, none⟩ = some (.int .i64 (r.from_ : Int)) ∧ w9.cell? ⟨b, 2, none⟩ = some (.int .i64 r.to) ∧ w9.cell? ⟨b, 4, none⟩ = some v4 := fun w9 hk => ⟨(hk.cell (p := ⟨b, 0, none⟩) hbl hbn).trans c0, (hk.cell (p := ⟨b, 1, none⟩) hbl hbn).trans c1, (hk.cell (p := ⟨b, 2, none⟩) hbl hbn).trans c2, (hk.cell (p := ⟨b, 4, none⟩) hbl hbn).trans hc4⟩
    obtain ⟨p4, cp4, hv4, hrow⟩ := hIn
    subst hv4
    rw [hlen] at hcell
    unfold ptB'
    go_enter Tryz.func107, Tryz.ntmps107
    go_wp2_with fail
    go_region_held3 (fun w' => w'.cell? ⟨b, 0, none⟩ = some (.int .i64 (r.rule : Int)) ∧ w'.cell? ⟨b, 1, none⟩ = some (.int .i64 (r.from_ : Int)) ∧ w'.cell? ⟨b, 2, none⟩ = some (.int .i64 r.to)) (go_keep)
      ((refine step_append_lies _ (by rfl) _ _ _ (by rfl) base 61 i0 _ 4 32 Tryz.underlying28 hi0 hz0 hz1 hz2 (by rfl) (by omega) (.slice p n cp) n xs (by rfl) (hO.alloc _).drew ⟨w.heap.size, 0, none⟩ 1 1 (nodC ⟨r.rule, r.from_, r.to, dp⟩) (by rfl) (by simp [nodC]) (World.news_of_block (cs := #[.int .i64 (r.rule : Int), .int .i64 (r.from_ : Int), .int .i64 r.to, .int .i64 (dp : Int)]) (t := 61) (fr := (0, 0)) (heap_alloc_new w _)) (by simp [nodC, Value.oneCell']) (by omega) (by simp [maxLen]; omega) (by omega) (by simp; omega) (w.heap.size + 1) (by simp) ?_; intro gg cap w9 hown hgrow hat hlt; have hK9 := hfar w9 _ hgrow; obtain ⟨q0, q1, q2, q4⟩ := hcell w9 hK9))
    have hA0 : AdI base n xs (.slice p n cp) [⟨r.rule, r.from_, r.to, dp⟩] w (.slice (some ⟨gg, 0, none⟩) (n + 1) cap) w9 := by
      refine ⟨by simpa using hown, fun k hk => ?_, hK9⟩
      have hk' : gg = k := Option.some.inj hk
      rcases hat with h1 | h1
      · left; rw [h1, hk']
      · right; omega
    have hrowK : ∀ wx, Kept (fun k => (Value.slice p n cp).ownBlock = some k) w wx → ∀ i (h : i < IB.length), ∃ g, p4 = some ⟨g, 0, none⟩ ∧ wx.cell? ⟨g, i, none⟩ = some (.pointer (some ⟨IB[i], 0, none⟩)) := fun wx hk i hi => by
      rcases hrow with e | ⟨g, cur, e1, e2, e3, e4⟩
      · subst e; exact absurd hi (by simp)
      · refine ⟨g, e1, ?_⟩
        have hx : wx.heap[g]? = w.heap[g]? := hk.block g (objAt_lt (show objAt w g = _ from e3)) (fun e => by
          obtain ⟨c2, hc⟩ := ownsRow_obj hO e
          have hc2 : w.heap[g]? = _ := hc
          rw [e3] at hc2; simp at hc2)
        simp only [World.cell?, hx, e3]
        exact e4 i hi
    obtain ⟨L, hL⟩ : ∃ L, L = r.inner.length := ⟨_, rfl⟩
    have hL5 : L ≤ 100000 := by
      have : ∀ l : List Rs, l.length ≤ (flL 0 l).length := fun l => by
        induction l with
        | nil => simp [flL]
        | cons x l ih => rw [flL, flR_eq]; simp; omega
      have := this r.inner
      omega
    rw [← hL] at q4
    have HL := hide hL
    have HlI := hide hlen
    clear hL hcell hfar hown hgrow hat hlt q0 q1 q2 hlen
    go_wp2_with fail
    go_loopg [1, 31] L (fun g v1 v31 wx => ∃ k, k ≤ L ∧ g = L - k ∧ v31 = .int .i64 (k : Int) ∧ AdI base n xs (.slice p n cp) ([⟨r.rule, r.from_, r.to, dp⟩] ++ flL (dp + 1) (r.inner.take k)) w v1 wx)
    case atStart =>
      exact ⟨0, by omega, by omega, rfl, by simpa [flL] using hA0⟩
    case round =>
      obtain ⟨k, hkL, hgk, rfl, hI⟩ := hrel
      obtain ⟨F, hF⟩ : ∃ F, F = ([⟨r.rule, r.from_, r.to, dp⟩] ++ flL (dp + 1) (r.inner.take k) : List NoI) := ⟨_, rfl⟩
      rw [← hF] at hI
      have hF1 : 1 ≤ F.length := by rw [hF]; simp
      obtain ⟨p1, cp1, hv1⟩ := ownsRow_form hI.own
      have hsz := hI.kept.size
      by_cases hk : k < L
      · have hk' : k < r.inner.length := by rw [← HL.out]; exact hk
        have hkI : k < IB.length := by rw [HlI.out]; exact hk'
        obtain ⟨g4, hp4, hcell4⟩ := hrowK wr hI.kept k hkI
        have hRs := hI.rs hO (hsub k hkI hk')
        have htk : r.inner.take (k + 1) = r.inner.take k ++ [r.inner[k]] := (List.take_append_getElem hk').symm
        have hFn : F ++ flR (dp + 1) r.inner[k] = [⟨r.rule, r.from_, r.to, dp⟩] ++ flL (dp + 1) (r.inner.take (k + 1)) := by
          rw [htk, flL_app, hF, List.append_assoc]; simp [flL]
        have hlen1 : (flL 0 (r.inner.take (k + 1))).length ≤ (flL 0 r.inner).length := by
          have h1 : r.inner = r.inner.take (k + 1) ++ r.inner.drop (k + 1) := (List.take_append_drop _ _).symm
          have h2 := congrArg (fun l => (flL 0 l).length) h1
          simp only [flL_app, List.length_append] at h2
          omega
        have hFl2 : F.length + (flR 0 r.inner[k]).length ≤ (flR 0 r).length := by
          have h1 := congrArg List.length hFn
          rw [List.length_append, List.length_append, flR_len, flL_len] at h1
          simp at h1
          omega
        have hcall := addTo_any m N r.inner[k] IB[k] (dp + 1) (n + F.length) base u1 (xs ++ F.flatMap nodC) wr (by omega) hRs hI.own (by omega) (by omega) (by omega)
        unfold ptB' at hcall
        obtain ⟨bk, hbk⟩ : ∃ bk, bk = IB[k] := ⟨_, rfl⟩
        rw [← hbk] at hcall hcell4
        subst hv1 hp4
        have hkc : ((dp + 1 : Nat) : Int) = (dp : Int) + 1 := by omega
        rw [hkc] at hcall
        have hLk : (k : Int) < (L : Int) := by omega
        have hIk := hI.kept
        have hIo := hI.own
        have hIg := hI.grow
        clear hbk hRs hF hsub hrowK hA0 hI
        go_wp2_with fail
        refine hcall.mono ?_
        rintro e w5 ⟨⟨v5, rfl, hO5, hg5⟩, hK5⟩
        obtain ⟨p5, cp5, hv5⟩ := ownsRow_form hO5
        subst hv5
        go_wp2_with fail
        go_roundg (L - (k + 1))
        case measure => omega
        case rel =>
          refine ⟨k + 1, by omega, rfl, by go_num, ?_⟩
          rw [← hFn]
          refine ⟨by rw [List.flatMap_append, List.length_append, ← Nat.add_assoc, ← List.append_assoc]; exact hO5, fun j hj => ?_, hIk.then hK5 (fun j hj hx => ?_)⟩
          · rcases hg5 j hj with h1 | h1
            · exact hIg j h1
            · right; omega
          · rcases hIg j hx with h1 | h1
            · exact h1
            · omega
      · have hkL' : k = L := by omega
        have hfin : r.inner.take k = r.inner := by rw [hkL', HL.out]; exact List.take_length
        have HF2 : Hid (flR dp r = F) := by unfold Hid; rw [HF.out, hF, hfin]
        have hLk : ¬ (k : Int) < (L : Int) := by omega
        have hIk := hI.kept
        have hIo := hI.own
        have hIg := hI.grow
        subst hv1
        clear hF hsub hrowK hA0 hI
        go_wp2
        go_ret
        exact ⟨⟨_, rfl, by rw [HF2.out]; exact hIo, hIg⟩, hIk⟩
end Go.Proofs.YtagklnaaoclmhaaGreatDoor

namespace Go.Proofs.YtagklnaaoclmhaaGreatDoor
open Go.RowKit

/-- An answer in memory: up to where, the nodes, the bits of what failed. -/
structure AnsX (w : World) (base : Nat) (to : Int) (L : List NoI) (m : Nat) (B : Bool) (T : Int) (vt vf : Value) : Prop where
  b : B = decide (to ≠ -1)
  t : T = if to = -1 then 0 else to
  tr : w.ownsRow base 61 4 vt (if to = -1 then [] else L).length ((if to = -1 then [] else L).flatMap nodC)
  fl : w.ownsRow base 3 1 vf (btL m).length ((btL m).map i64V)
structure AnO (base : Nat) (to : Int) (L : List NoI) (far : Int × Nat) (w : World) (e : Ending) (w' : World) : Prop where
  ex : ∃ (B : Bool) (T : Int) (tp fp : Option Addr) (tn tc fn fc : Nat), e = .returned (.agg #[.bool B, .int .i64 T, .slice tp tn tc, .int .i64 far.1, .slice fp fn fc]) ∧ AnsX w' base to L far.2 B T (.slice tp tn tc) (.slice fp fn fc)
  kept : Kept (fun _ => False) w w'
theorem own_base {w : World} {b b' e size n : Nat} {v : Value} {xs : List Value} (h : w.ownsRow b e size v n xs) (hb : b' ≤ b) : w.ownsRow b' e size v n xs := by
  refine ⟨h.1, ?_⟩
  rcases h.2 with hv | ⟨g, cap, cur, rfl, hb2, rest⟩
  · exact .inl hv
  · exact .inr ⟨g, cap, cur, rfl, Nat.le_trans hb hb2, rest⟩
/-- .. with one more that is kept. -/
structure NbX (m : Nat) (w0 : World) (e : Ending) (w' : World) : Prop where
  ex : ∃ p n c, e = .returned (.slice p n c) ∧ w'.ownsRow w0.heap.size 3 1 (.slice p n c) (btL m).length ((btL m).map i64V)
  kept : Kept (fun _ => False) w0 w'
def set5 (w : World) (q : Nat) (a b c d e : Value) : World := ((((w.setCell ⟨q, 0, none⟩ a).setCell ⟨q, 1, none⟩ b).setCell ⟨q, 2, none⟩ c).setCell ⟨q, 3, none⟩ d).setCell ⟨q, 4, none⟩ e
theorem set5_kept (w : World) (q : Nat) (a b c d e : Value) : Kept (fun k => k = q) w (set5 w q a b c d e) :=
  ((((((Kept.refl (fun k => k = q) w).setCell (p := ⟨q, 0, none⟩) (fun _ => rfl) _).setCell (p := ⟨q, 1, none⟩) (fun _ => rfl) _).setCell (p := ⟨q, 2, none⟩) (fun _ => rfl) _).setCell (p := ⟨q, 3, none⟩) (fun _ => rfl) _).setCell (p := ⟨q, 4, none⟩) (fun _ => rfl) _)
theorem set5_at {w : World} {q t : Nat} {a' b' c' d' e' : Value} (h : w.heap[q]? = some (.cells #[a', b', c', d', e'] t (0, 0))) (a b c d e : Value) : (set5 w q a b c d e).heap[q]? = some (.cells #[a, b, c, d, e] t (0, 0)) := by
  have e1 := heap_set_at h 0 a
  have e2 := heap_set_at e1 1 b
  have e3 := heap_set_at e2 2 c
  have e4 := heap_set_at e3 3 d
  have e5 := heap_set_at e4 4 e
  unfold set5
  simpa using e5
theorem cells5 {w : World} {q t : Nat} {a b c d e : Value} (h : w.heap[q]? = some (.cells #[a, b, c, d, e] t (0, 0))) : w.cell? ⟨q, 0, none⟩ = some a ∧ w.cell? ⟨q, 1, none⟩ = some b ∧ w.cell? ⟨q, 2, none⟩ = some c ∧ w.cell? ⟨q, 3, none⟩ = some d ∧ w.cell? ⟨q, 4, none⟩ = some e := by
  refine ⟨?_, ?_, ?_, ?_, ?_⟩ <;> simp [World.cell?, h]
set_option maxRecDepth 100000 in
set_option maxHeartbeats 16000000 in
theorem answer_any {I : Wi} (hI : Ic I) {mv : Value} {s : Wt} {w : World} (h : WkAt I mv s w) (hT : Tab w) (rb : Nat) (r : Rs) (hr : RsAt w mv.ownBlock rb r) (hn : ¬ r.to = -1 → (flR 0 r).length ≤ 100000) :
    Calls Tryz.prog 74 #[ptB' I.wk, ptB' rb] w fun e w' => AnO w.heap.size r.to (flR 0 r) s.far w e w' := by
  have c6 : w.cell? ⟨I.wk, 6, none⟩ = some (.int .i64 s.far.1) := by simp [World.cell?, h.blk]
  have c7 : w.cell? ⟨I.wk, 7, none⟩ = some (.int .u64 (s.far.2 : Int)) := by simp [World.cell?, h.blk]
  have hwl := lt_cell c6
  have hfm : s.far.2 < 18446744073709551616 := by have := h.far2; omega
  have h0l : (0 : Nat) < w.heap.size := lt_cell (hT 0 (by decide))
  obtain ⟨wa, hwa⟩ : ∃ wa, wa = w.alloc (.cells #[.bool false, .int .i64 0, .slice none 0 0, .int .i64 0, .slice none 0 0] 31) := ⟨_, rfl⟩
  have hKa : Kept (fun _ => False) w wa := by rw [hwa]; exact (Kept.refl _ w).alloc _
  have hab : wa.heap[w.heap.size]? = some (.cells #[.bool false, .int .i64 0, .slice none 0 0, .int .i64 0, .slice none 0 0] 31 (0, 0)) := by rw [hwa]; exact heap_alloc_new _ _
  unfold ptB'
  go_enter Tryz.func74, Tryz.ntmps74
  go_wp2_with fail
  rw [← hwa]
  have c6a : wa.cell? ⟨I.wk, 6, none⟩ = some (.int .i64 s.far.1) := (hKa.cell (p := ⟨I.wk, 6, none⟩) hwl (fun x => x)).trans c6
  have hnum : ∀ W, Kept (fun _ => False) wa W → Calls Tryz.prog 106 #[.pointer (some ⟨I.wk, 6, none⟩)] W fun e w' => NbX s.far.2 W e w' := fun W hW => by
    refine (numbers_any I.wk s.far.2 W (hT.kept (hKa.trans hW) (fun x => x)) (((hKa.trans hW).cell (p := ⟨I.wk, 7, none⟩) hwl (fun x => x)).trans c7) hfm).mono ?_
    rintro e w2 ⟨⟨v2, rfl, hO2⟩, hK2⟩
    obtain ⟨p2, cp2, hv2⟩ := ownsRow_form hO2
    subst hv2
    exact ⟨⟨_, _, _, rfl, hO2⟩, hK2⟩
  have hn1 := hnum wa.drew (Kept.refl _ _).drew
  have hn2 := hnum (wa.alloc (.cells #[.bool false, .int .i64 0, .slice none 0 0, .int .i64 0, .slice none 0 0] 31)).drew ((Kept.refl _ _).alloc _).drew
  have hc6 : ∀ W, Kept (fun _ => False) wa W → W.cell? ⟨I.wk, 6, none⟩ = some (.int .i64 s.far.1) := fun W hW => (hW.cell (p := ⟨I.wk, 6, none⟩) (lt_cell c6a) (fun x => x)).trans c6a
  have hwas : Hid (wa.heap.size = w.heap.size + 1) := by unfold Hid; rw [hwa]; simp
  clear hwa
  have hz : ∀ W, Kept (fun _ => False) (wa.alloc (.cells #[.bool false, .int .i64 0, .slice none 0 0, .int .i64 0, .slice none 0 0] 31)).drew W → W.heap[wa.heap.size]? = some (.cells #[.bool false, .int .i64 0, .slice none 0 0, .int .i64 0, .slice none 0 0] 31 (0, 0)) := fun W hW => by
    rw [hW.block wa.heap.size (by show wa.heap.size < (wa.alloc _).heap.size; simp) (fun x => x)]
    exact heap_alloc_new wa _
  have hcz : ∀ W : World, W.heap[wa.heap.size]? = some (.cells #[.bool false, .int .i64 0, .slice none 0 0, .int .i64 0, .slice none 0 0] 31 (0, 0)) → (W.cell? ⟨wa.heap.size, 0, none⟩ = some (.bool false) ∧ W.cell? ⟨wa.heap.size, 1, none⟩ = some (.int .i64 0) ∧ W.cell? ⟨wa.heap.size, 2, none⟩ = some (.slice none 0 0) ∧ W.cell? ⟨wa.heap.size, 3, none⟩ = some (.int .i64 0) ∧ W.cell? ⟨wa.heap.size, 4, none⟩ = some (.slice none 0 0)) ∧ (W.frozen? ⟨wa.heap.size, 0, none⟩ = false ∧ W.frozen? ⟨wa.heap.size, 1, none⟩ = false ∧ W.frozen? ⟨wa.heap.size, 2, none⟩ = false ∧ W.frozen? ⟨wa.heap.size, 3, none⟩ = false ∧ W.frozen? ⟨wa.heap.size, 4, none⟩ = false) := fun W hW => by
    refine ⟨⟨?_, ?_, ?_, ?_, ?_⟩, ?_, ?_, ?_, ?_, ?_⟩ <;> (first | simp [World.cell?, hW] | simp [World.frozen?, hW])
  have hwkq : ¬ wa.heap.size = I.wk := by have h5 : I.wk < wa.heap.size := lt_cell c6a; omega
  have hsz2 : Hid ((wa.alloc (.cells #[.bool false, .int .i64 0, .slice none 0 0, .int .i64 0, .slice none 0 0] 31)).drew.heap.size = wa.heap.size + 1) := by show (wa.alloc _).heap.size = _; simp
  have hwkq' : ¬ I.wk = wa.heap.size := fun e => hwkq e.symm
  go_region_held3 (fun w' => w'.cell? ⟨I.wk, 6, none⟩ = some (.int .i64 s.far.1)) (go_keep) ((go_at_call 106; first | (refine hn1.mono ?_; rintro e w2 ⟨⟨p2, n2, cp2, rfl, hO2⟩, hK2⟩; have d6 := hc6 w2 ((Kept.refl _ _).drew.trans hK2)) | (refine hn2.mono ?_; rintro e w2 ⟨⟨p2, n2, cp2, rfl, hO2⟩, hK2⟩; have d6 := hc6 w2 (((Kept.refl _ _).alloc _).drew.trans hK2); have hzz := hz w2 hK2; obtain ⟨⟨z0, z1, z2, z3, z4⟩, f0, f1, f2, f3, f4⟩ := hcz w2 hzz)))
  · obtain ⟨w3, hw3⟩ : ∃ w3, w3 = w2.alloc (.cells #[.bool false, .int .i64 0, .slice none 0 0, .int .i64 s.far.1, .slice p2 n2 cp2] 31) := ⟨_, rfl⟩
    rw [← hw3]
    obtain ⟨ab, hab2⟩ : ∃ ab, ab = w2.heap.size := ⟨_, rfl⟩
    rw [← hab2]
    have K3 : Kept (fun _ => False) wa w3 := by rw [hw3]; exact ((Kept.refl _ wa).drew.trans hK2).alloc _
    have hb3 : w3.heap[ab]? = some (.cells #[.bool false, .int .i64 0, .slice none 0 0, .int .i64 s.far.1, .slice p2 n2 cp2] 31 (0, 0)) := by rw [hw3, hab2]; exact heap_alloc_new _ _
    have hal : wa.heap.size ≤ ab := by rw [hab2]; exact hK2.size
    have hO3 : w3.ownsRow wa.heap.size 3 1 (.slice p2 n2 cp2) (btL s.far.2).length ((btL s.far.2).map i64V) := by rw [hw3]; exact hO2.alloc _
    have hfab : (Value.slice p2 n2 cp2).ownBlock ≠ some ab := fun e => by have := (hO2.lt ab e).2; omega
    clear hw3 hab2 hK2 hO2 d6
    have K3w : Kept (fun _ => False) w w3 := hKa.trans K3
    have hr3 : RsAt w3 mv.ownBlock rb r := hr.fr (b0 := I.b0) (Fr.new K3w)
    obtain ⟨_, _, r2, _⟩ := hr3.cells
    have b0 : w3.cell? ⟨ab, 0, none⟩ = some (.bool false) := by simp [World.cell?, hb3]
    have b1 : w3.cell? ⟨ab, 1, none⟩ = some (.int .i64 0) := by simp [World.cell?, hb3]
    have b2 : w3.cell? ⟨ab, 2, none⟩ = some (.slice none 0 0) := by simp [World.cell?, hb3]
    have b3 : w3.cell? ⟨ab, 3, none⟩ = some (.int .i64 s.far.1) := by simp [World.cell?, hb3]
    have b4 : w3.cell? ⟨ab, 4, none⟩ = some (.slice p2 n2 cp2) := by simp [World.cell?, hb3]
    have g0 : w3.frozen? ⟨ab, 0, none⟩ = false := by simp [World.frozen?, hb3]
    have g1 : w3.frozen? ⟨ab, 1, none⟩ = false := by simp [World.frozen?, hb3]
    have g2 : w3.frozen? ⟨ab, 2, none⟩ = false := by simp [World.frozen?, hb3]
    have hq3 : w3.heap[w.heap.size]? = some (.cells #[.bool false, .int .i64 0, .slice none 0 0, .int .i64 0, .slice none 0 0] 31 (0, 0)) := by
      rw [K3.block w.heap.size (objAt_lt (show objAt wa w.heap.size = _ from hab)) (fun x => x)]; exact hab
    have hq : ab ≠ w.heap.size := by have := hwas.out; omega
    have hq' : ¬ w.heap.size = ab := fun e => hq e.symm
    have fq : ∀ k, w3.frozen? ⟨w.heap.size, k, none⟩ = false := fun k => by simp [World.frozen?, hq3]
    have fq0 := fq 0
    have fq1 := fq 1
    have fq2 := fq 2
    have fq3 := fq 3
    have fq4 := fq 4
    have y0 : w3.cell? ⟨w.heap.size, 0, none⟩ = some (.bool false) := by simp [World.cell?, hq3]
    have y1 : w3.cell? ⟨w.heap.size, 1, none⟩ = some (.int .i64 0) := by simp [World.cell?, hq3]
    have y2 : w3.cell? ⟨w.heap.size, 2, none⟩ = some (.slice none 0 0) := by simp [World.cell?, hq3]
    have y3 : w3.cell? ⟨w.heap.size, 3, none⟩ = some (.int .i64 0) := by simp [World.cell?, hq3]
    have y4 : w3.cell? ⟨w.heap.size, 4, none⟩ = some (.slice none 0 0) := by simp [World.cell?, hq3]
    by_cases ht : r.to = -1
    · rw [ht] at r2
      go_wp2
      obtain ⟨w5, hw5⟩ : ∃ w5, w5 = set5 w3 w.heap.size (.bool false) (.int .i64 0) (.slice none 0 0) (.int .i64 s.far.1) (.slice p2 n2 cp2) := ⟨_, rfl⟩
      have hw5' := hw5
      unfold set5 at hw5'
      rw [← hw5']
      have h5 : w5.heap[w.heap.size]? = some (.cells #[.bool false, .int .i64 0, .slice none 0 0, .int .i64 s.far.1, .slice p2 n2 cp2] 31 (0, 0)) := by rw [hw5]; exact set5_at hq3 _ _ _ _ _
      have K5 : Kept (fun k => k = w.heap.size) w3 w5 := by rw [hw5]; exact set5_kept _ _ _ _ _ _ _
      obtain ⟨x0, x1, x2, x3, x4⟩ := cells5 h5
      clear hw5 hw5'
      refine bodyPost_ret (v := .agg #[.bool false, .int .i64 0, .slice none 0 0, .int .i64 s.far.1, .slice p2 n2 cp2]) (by simp [results, Tryz.results74, go_sem, x0, x1, x2, x3, x4]) rfl ⟨⟨_, _, _, _, _, _, _, _, rfl, ⟨by rw [ht]; rfl, by rw [ht]; rfl, ?_, ?_⟩⟩, ?_⟩
      · rw [ht]; exact World.ownsRow_nil _ _ _ _
      · exact own_kept (own_base hO3 hKa.size) K5 (fun i hi e => by
          have e' : i = w.heap.size := e
          have h6 := (hO3.lt i hi).1
          have h7 := hwas.out
          omega)
      · exact K3w.then K5 (fun i hi e => by have e' : i = w.heap.size := e; omega)
    · have hrl : (flR 0 r).length ≤ 100000 := hn ht
      have hadd := addTo_any mv.ownBlock (flR 0 r).length r rb 0 0 w.heap.size (.slice none 0 0) [] w3.drew (Nat.le_refl _) (hr3.fr (b0 := I.b0) (Fr.new (Kept.refl _ w3).drew)) (World.ownsRow_nil _ _ _ _) (by show w.heap.size ≤ w3.heap.size; have := K3w.size; omega) (by omega) (by omega)
      unfold ptB' at hadd
      have hrb : ¬ rb = ab := fun e => by
        cases hr3 with
        | mk blk _ _ _ => rw [e, hb3] at blk; simp at blk
      have hrb' : ¬ ab = rb := fun e => hrb e.symm
      have hne : ¬ r.to = -1 := ht
      have hk4 : ∀ w4, Kept (fun k => (Value.slice none 0 0).ownBlock = some k) w3.drew w4 → Kept (fun _ => False) w3 w4 := fun w4 hk => (Kept.refl (fun _ => False) w3).drew.trans (hk.mono (fun k _ e => by cases e))
      have hcz4 : ∀ w4, Kept (fun _ => False) w3 w4 → w4.heap[ab]? = some (.cells #[.bool false, .int .i64 0, .slice none 0 0, .int .i64 s.far.1, .slice p2 n2 cp2] 31 (0, 0)) := fun w4 hk => (hk.block ab (objAt_lt (show objAt w3 ab = _ from hb3)) (fun x => x)).trans hb3
      have hfz4 : ∀ w4 : World, w4.heap[ab]? = some (.cells #[.bool false, .int .i64 0, .slice none 0 0, .int .i64 s.far.1, .slice p2 n2 cp2] 31 (0, 0)) → w4.frozen? ⟨ab, 0, none⟩ = false ∧ w4.frozen? ⟨ab, 1, none⟩ = false ∧ w4.frozen? ⟨ab, 2, none⟩ = false := fun w4 h4 => ⟨by simp [World.frozen?, h4], by simp [World.frozen?, h4], by simp [World.frozen?, h4]⟩
      have hr2k : ∀ w4, Kept (fun _ => False) w3 w4 → w4.cell? ⟨rb, 2, none⟩ = some (.int .i64 r.to) := fun w4 hk => (hk.cell (p := ⟨rb, 2, none⟩) hr3.lt (fun x => x)).trans r2
      clear b0 b1 b2 b3 b4 g0 g1 g2 fq fq0 fq1 fq2 fq3 fq4 y0 y1 y2 y3 y4 hn1 hn2 hnum hc6 hcz hz hr3 h hn c6 c7 hwl hwkq hwkq' c6a hT hr h0l hI hsz2 K3 hfm hrl
      have HQ := hide hq
      have HT := hide ht
      have HAL := hide hal
      clear hq hq' ht hal
      go_wp2_with fail
      go_region_held3 (fun w' => w'.cell? ⟨rb, 2, none⟩ = some (.int .i64 r.to)) (go_keep) ((go_at_call 107; refine hadd.mono ?_; rintro e w4 ⟨⟨v4, rfl, hO4, -⟩, hK4⟩; obtain ⟨p4, cp4, hv4⟩ := ownsRow_form hO4; subst hv4; have K4 := hk4 w4 hK4; have hb4 := hcz4 w4 K4; obtain ⟨j0, j1, j2, j3, j4⟩ := cells5 hb4; obtain ⟨l0, l1, l2⟩ := hfz4 w4 hb4; have k2 := hr2k w4 K4))
      obtain ⟨w5, hw5⟩ : ∃ w5, w5 = ((w4.setCell ⟨ab, 0, none⟩ (.bool true)).setCell ⟨ab, 1, none⟩ (.int .i64 r.to)).setCell ⟨ab, 2, none⟩ (.slice p4 (flR 0 r).length cp4) := ⟨_, rfl⟩
      rw [← hw5]
      have K45 : Kept (fun k => k = ab) w4 w5 := by
        rw [hw5]
        exact (((Kept.refl (fun k => k = ab) w4).setCell (p := ⟨ab, 0, none⟩) (fun _ => rfl) _).setCell (p := ⟨ab, 1, none⟩) (fun _ => rfl) _).setCell (p := ⟨ab, 2, none⟩) (fun _ => rfl) _
      have hb5 : w5.heap[ab]? = some (.cells #[.bool true, .int .i64 r.to, .slice p4 (flR 0 r).length cp4, .int .i64 s.far.1, .slice p2 n2 cp2] 31 (0, 0)) := by
        rw [hw5]
        have e1 := heap_set_at hb4 0 (.bool true)
        have e2 := heap_set_at e1 1 (.int .i64 r.to)
        have e3 := heap_set_at e2 2 (.slice p4 (flR 0 r).length cp4)
        simpa using e3
      have hq5 : w5.heap[w.heap.size]? = some (.cells #[.bool false, .int .i64 0, .slice none 0 0, .int .i64 0, .slice none 0 0] 31 (0, 0)) := by
        have hl3 := objAt_lt (show objAt w3 w.heap.size = _ from hq3)
        rw [K45.block w.heap.size (Nat.lt_of_lt_of_le hl3 K4.size) (fun e => HQ.out e.symm), K4.block w.heap.size hl3 (fun x => x)]
        exact hq3
      obtain ⟨m0, m1, m2, m3, m4⟩ := cells5 hb5
      have fq : ∀ k, w5.frozen? ⟨w.heap.size, k, none⟩ = false := fun k => by simp [World.frozen?, hq5]
      have fq0 := fq 0
      have fq1 := fq 1
      have fq2 := fq 2
      have fq3 := fq 3
      have fq4 := fq 4
      obtain ⟨y0, y1, y2, y3, y4⟩ := cells5 hq5
      have hq := HQ.out
      have hq' : ¬ w.heap.size = ab := fun e => hq e.symm
      clear hw5 j0 j1 j2 j3 j4 l0 l1 l2 k2
      go_wp2
      obtain ⟨w6, hw6⟩ : ∃ w6, w6 = set5 w5 w.heap.size (.bool true) (.int .i64 r.to) (.slice p4 (flR 0 r).length cp4) (.int .i64 s.far.1) (.slice p2 n2 cp2) := ⟨_, rfl⟩
      have hw6' := hw6
      unfold set5 at hw6'
      rw [← hw6']
      have h6 : w6.heap[w.heap.size]? = some (.cells #[.bool true, .int .i64 r.to, .slice p4 (flR 0 r).length cp4, .int .i64 s.far.1, .slice p2 n2 cp2] 31 (0, 0)) := by rw [hw6]; exact set5_at hq5 _ _ _ _ _
      have K6 : Kept (fun k => k = w.heap.size) w5 w6 := by rw [hw6]; exact set5_kept _ _ _ _ _ _ _
      obtain ⟨x0, x1, x2, x3, x4⟩ := cells5 h6
      have K46 : Kept (fun k => k = ab ∨ k = w.heap.size) w4 w6 := (K45.mono (fun _ _ e => Or.inl e)).trans (K6.mono (fun _ _ e => Or.inr e))
      have ht := HT.out
      clear hw6 hw6'
      refine bodyPost_ret (v := .agg #[.bool true, .int .i64 r.to, .slice p4 (flR 0 r).length cp4, .int .i64 s.far.1, .slice p2 n2 cp2]) (by simp [results, Tryz.results74, go_sem, x0, x1, x2, x3, x4]) rfl ⟨⟨_, _, _, _, _, _, _, _, rfl, ⟨by simp [ht], by rw [if_neg ht], ?_, ?_⟩⟩, ?_⟩
      · rw [if_neg ht]
        have hO4' : w4.ownsRow w.heap.size 61 4 (.slice p4 (flR 0 r).length cp4) (flR 0 r).length ((flR 0 r).flatMap nodC) := by simpa using hO4
        exact own_kept hO4' K46 (fun i hi e => by
          obtain ⟨c, hc⟩ := ownsRow_obj hO4' hi
          have hc2 : w4.heap[i]? = _ := hc
          rcases e with e | e
          · rw [e, hb4] at hc2; simp at hc2
          · have hl3 := objAt_lt (show objAt w3 w.heap.size = _ from hq3)
            rw [e, K4.block w.heap.size hl3 (fun x => x), hq3] at hc2; simp at hc2)
      · exact own_kept (own_kept (own_base hO3 hKa.size) K4 (fun _ _ x => x)) K46 (fun i hi e => by
          rcases e with e | e
          · exact hfab (by rw [hi]; exact congrArg some e)
          · have h6 := (hO3.lt i hi).1
            have h7 := hwas.out
            omega)
      · exact (K3w.trans K4).then K46 (fun i hi e => by
          rcases e with e | e
          · have hx : ab < w.heap.size := by rw [← e]; exact hi
            have := HAL.out
            have h7 := hwas.out
            omega
          · omega)
  · obtain ⟨w3, hw3⟩ : ∃ w3, w3 = ((((w2.setCell ⟨wa.heap.size, 0, none⟩ (.bool false)).setCell ⟨wa.heap.size, 1, none⟩ (.int .i64 0)).setCell ⟨wa.heap.size, 2, none⟩ (.slice none 0 0)).setCell ⟨wa.heap.size, 3, none⟩ (.int .i64 s.far.1)).setCell ⟨wa.heap.size, 4, none⟩ (.slice p2 n2 cp2) := ⟨_, rfl⟩
    rw [← hw3]
    obtain ⟨ab, hab2⟩ : ∃ ab, ab = wa.heap.size := ⟨_, rfl⟩
    rw [← hab2]
    have K23 : Kept (fun k => k = wa.heap.size) w2 w3 := by
      rw [hw3]
      exact ((((((Kept.refl (fun k => k = wa.heap.size) w2).setCell (p := ⟨wa.heap.size, 0, none⟩) (fun _ => rfl) _).setCell (p := ⟨wa.heap.size, 1, none⟩) (fun _ => rfl) _).setCell (p := ⟨wa.heap.size, 2, none⟩) (fun _ => rfl) _).setCell (p := ⟨wa.heap.size, 3, none⟩) (fun _ => rfl) _).setCell (p := ⟨wa.heap.size, 4, none⟩) (fun _ => rfl) _)
    have K3 : Kept (fun _ => False) wa w3 := (((Kept.refl (fun _ => False) wa).alloc _).drew.trans hK2).then K23 (fun i hi e => by have e' : i = wa.heap.size := e; omega)
    have hb3 : w3.heap[ab]? = some (.cells #[.bool false, .int .i64 0, .slice none 0 0, .int .i64 s.far.1, .slice p2 n2 cp2] 31 (0, 0)) := by
      rw [hw3, hab2]
      have e1 := heap_set_at hzz 0 (.bool false)
      have e2 := heap_set_at e1 1 (.int .i64 0)
      have e3 := heap_set_at e2 2 (.slice none 0 0)
      have e4 := heap_set_at e3 3 (.int .i64 s.far.1)
      have e5 := heap_set_at e4 4 (.slice p2 n2 cp2)
      simpa using e5
    have hal : wa.heap.size ≤ ab := by rw [hab2]; exact Nat.le_refl _
    have hfab' : (Value.slice p2 n2 cp2).ownBlock ≠ some wa.heap.size := fun e => by
      have h5 := (hO2.lt _ e).1
      have h6 := hsz2.out
      omega
    have hO3 : w3.ownsRow wa.heap.size 3 1 (.slice p2 n2 cp2) (btL s.far.2).length ((btL s.far.2).map i64V) := own_base (own_kept hO2 K23 (fun i hi e => hfab' (by rw [hi]; exact congrArg some e))) (by have h6 := hsz2.out; omega)
    have hfab : (Value.slice p2 n2 cp2).ownBlock ≠ some ab := by rw [hab2]; exact hfab'
    clear hw3 hab2 hK2 hO2 d6 z0 z1 z2 z3 z4 f0 f1 f2 f3 f4 hzz K23 hfab'
    have K3w : Kept (fun _ => False) w w3 := hKa.trans K3
    have hr3 : RsAt w3 mv.ownBlock rb r := hr.fr (b0 := I.b0) (Fr.new K3w)
    obtain ⟨_, _, r2, _⟩ := hr3.cells
    have b0 : w3.cell? ⟨ab, 0, none⟩ = some (.bool false) := by simp [World.cell?, hb3]
    have b1 : w3.cell? ⟨ab, 1, none⟩ = some (.int .i64 0) := by simp [World.cell?, hb3]
    have b2 : w3.cell? ⟨ab, 2, none⟩ = some (.slice none 0 0) := by simp [World.cell?, hb3]
    have b3 : w3.cell? ⟨ab, 3, none⟩ = some (.int .i64 s.far.1) := by simp [World.cell?, hb3]
    have b4 : w3.cell? ⟨ab, 4, none⟩ = some (.slice p2 n2 cp2) := by simp [World.cell?, hb3]
    have g0 : w3.frozen? ⟨ab, 0, none⟩ = false := by simp [World.frozen?, hb3]
    have g1 : w3.frozen? ⟨ab, 1, none⟩ = false := by simp [World.frozen?, hb3]
    have g2 : w3.frozen? ⟨ab, 2, none⟩ = false := by simp [World.frozen?, hb3]
    have hq3 : w3.heap[w.heap.size]? = some (.cells #[.bool false, .int .i64 0, .slice none 0 0, .int .i64 0, .slice none 0 0] 31 (0, 0)) := by
      rw [K3.block w.heap.size (objAt_lt (show objAt wa w.heap.size = _ from hab)) (fun x => x)]; exact hab
    have hq : ab ≠ w.heap.size := by have := hwas.out; omega
    have hq' : ¬ w.heap.size = ab := fun e => hq e.symm
    have fq : ∀ k, w3.frozen? ⟨w.heap.size, k, none⟩ = false := fun k => by simp [World.frozen?, hq3]
    have fq0 := fq 0
    have fq1 := fq 1
    have fq2 := fq 2
    have fq3 := fq 3
    have fq4 := fq 4
    have y0 : w3.cell? ⟨w.heap.size, 0, none⟩ = some (.bool false) := by simp [World.cell?, hq3]
    have y1 : w3.cell? ⟨w.heap.size, 1, none⟩ = some (.int .i64 0) := by simp [World.cell?, hq3]
    have y2 : w3.cell? ⟨w.heap.size, 2, none⟩ = some (.slice none 0 0) := by simp [World.cell?, hq3]
    have y3 : w3.cell? ⟨w.heap.size, 3, none⟩ = some (.int .i64 0) := by simp [World.cell?, hq3]
    have y4 : w3.cell? ⟨w.heap.size, 4, none⟩ = some (.slice none 0 0) := by simp [World.cell?, hq3]
    by_cases ht : r.to = -1
    · rw [ht] at r2
      go_wp2
      obtain ⟨w5, hw5⟩ : ∃ w5, w5 = set5 w3 w.heap.size (.bool false) (.int .i64 0) (.slice none 0 0) (.int .i64 s.far.1) (.slice p2 n2 cp2) := ⟨_, rfl⟩
      have hw5' := hw5
      unfold set5 at hw5'
      rw [← hw5']
      have h5 : w5.heap[w.heap.size]? = some (.cells #[.bool false, .int .i64 0, .slice none 0 0, .int .i64 s.far.1, .slice p2 n2 cp2] 31 (0, 0)) := by rw [hw5]; exact set5_at hq3 _ _ _ _ _
      have K5 : Kept (fun k => k = w.heap.size) w3 w5 := by rw [hw5]; exact set5_kept _ _ _ _ _ _ _
      obtain ⟨x0, x1, x2, x3, x4⟩ := cells5 h5
      clear hw5 hw5'
      refine bodyPost_ret (v := .agg #[.bool false, .int .i64 0, .slice none 0 0, .int .i64 s.far.1, .slice p2 n2 cp2]) (by simp [results, Tryz.results74, go_sem, x0, x1, x2, x3, x4]) rfl ⟨⟨_, _, _, _, _, _, _, _, rfl, ⟨by rw [ht]; rfl, by rw [ht]; rfl, ?_, ?_⟩⟩, ?_⟩
      · rw [ht]; exact World.ownsRow_nil _ _ _ _
      · exact own_kept (own_base hO3 hKa.size) K5 (fun i hi e => by
          have e' : i = w.heap.size := e
          have h6 := (hO3.lt i hi).1
          have h7 := hwas.out
          omega)
      · exact K3w.then K5 (fun i hi e => by have e' : i = w.heap.size := e; omega)
    · have hrl : (flR 0 r).length ≤ 100000 := hn ht
      have hadd := addTo_any mv.ownBlock (flR 0 r).length r rb 0 0 w.heap.size (.slice none 0 0) [] w3.drew (Nat.le_refl _) (hr3.fr (b0 := I.b0) (Fr.new (Kept.refl _ w3).drew)) (World.ownsRow_nil _ _ _ _) (by show w.heap.size ≤ w3.heap.size; have := K3w.size; omega) (by omega) (by omega)
      unfold ptB' at hadd
      have hrb : ¬ rb = ab := fun e => by
        cases hr3 with
        | mk blk _ _ _ => rw [e, hb3] at blk; simp at blk
      have hrb' : ¬ ab = rb := fun e => hrb e.symm
      have hne : ¬ r.to = -1 := ht
      have hk4 : ∀ w4, Kept (fun k => (Value.slice none 0 0).ownBlock = some k) w3.drew w4 → Kept (fun _ => False) w3 w4 := fun w4 hk => (Kept.refl (fun _ => False) w3).drew.trans (hk.mono (fun k _ e => by cases e))
      have hcz4 : ∀ w4, Kept (fun _ => False) w3 w4 → w4.heap[ab]? = some (.cells #[.bool false, .int .i64 0, .slice none 0 0, .int .i64 s.far.1, .slice p2 n2 cp2] 31 (0, 0)) := fun w4 hk => (hk.block ab (objAt_lt (show objAt w3 ab = _ from hb3)) (fun x => x)).trans hb3
      have hfz4 : ∀ w4 : World, w4.heap[ab]? = some (.cells #[.bool false, .int .i64 0, .slice none 0 0, .int .i64 s.far.1, .slice p2 n2 cp2] 31 (0, 0)) → w4.frozen? ⟨ab, 0, none⟩ = false ∧ w4.frozen? ⟨ab, 1, none⟩ = false ∧ w4.frozen? ⟨ab, 2, none⟩ = false := fun w4 h4 => ⟨by simp [World.frozen?, h4], by simp [World.frozen?, h4], by simp [World.frozen?, h4]⟩
      have hr2k : ∀ w4, Kept (fun _ => False) w3 w4 → w4.cell? ⟨rb, 2, none⟩ = some (.int .i64 r.to) := fun w4 hk => (hk.cell (p := ⟨rb, 2, none⟩) hr3.lt (fun x => x)).trans r2
      clear b0 b1 b2 b3 b4 g0 g1 g2 fq fq0 fq1 fq2 fq3 fq4 y0 y1 y2 y3 y4 hn1 hn2 hnum hc6 hcz hz hr3 h hn c6 c7 hwl hwkq hwkq' c6a hT hr h0l hI hsz2 K3 hfm hrl
      have HQ := hide hq
      have HT := hide ht
      have HAL := hide hal
      clear hq hq' ht hal
      go_wp2_with fail
      go_region_held3 (fun w' => w'.cell? ⟨rb, 2, none⟩ = some (.int .i64 r.to)) (go_keep) ((go_at_call 107; refine hadd.mono ?_; rintro e w4 ⟨⟨v4, rfl, hO4, -⟩, hK4⟩; obtain ⟨p4, cp4, hv4⟩ := ownsRow_form hO4; subst hv4; have K4 := hk4 w4 hK4; have hb4 := hcz4 w4 K4; obtain ⟨j0, j1, j2, j3, j4⟩ := cells5 hb4; obtain ⟨l0, l1, l2⟩ := hfz4 w4 hb4; have k2 := hr2k w4 K4))
      obtain ⟨w5, hw5⟩ : ∃ w5, w5 = ((w4.setCell ⟨ab, 0, none⟩ (.bool true)).setCell ⟨ab, 1, none⟩ (.int .i64 r.to)).setCell ⟨ab, 2, none⟩ (.slice p4 (flR 0 r).length cp4) := ⟨_, rfl⟩
      rw [← hw5]
      have K45 : Kept (fun k => k = ab) w4 w5 := by
        rw [hw5]
        exact (((Kept.refl (fun k => k = ab) w4).setCell (p := ⟨ab, 0, none⟩) (fun _ => rfl) _).setCell (p := ⟨ab, 1, none⟩) (fun _ => rfl) _).setCell (p := ⟨ab, 2, none⟩) (fun _ => rfl) _
      have hb5 : w5.heap[ab]? = some (.cells #[.bool true, .int .i64 r.to, .slice p4 (flR 0 r).length cp4, .int .i64 s.far.1, .slice p2 n2 cp2] 31 (0, 0)) := by
        rw [hw5]
        have e1 := heap_set_at hb4 0 (.bool true)
        have e2 := heap_set_at e1 1 (.int .i64 r.to)
        have e3 := heap_set_at e2 2 (.slice p4 (flR 0 r).length cp4)
        simpa using e3
      have hq5 : w5.heap[w.heap.size]? = some (.cells #[.bool false, .int .i64 0, .slice none 0 0, .int .i64 0, .slice none 0 0] 31 (0, 0)) := by
        have hl3 := objAt_lt (show objAt w3 w.heap.size = _ from hq3)
        rw [K45.block w.heap.size (Nat.lt_of_lt_of_le hl3 K4.size) (fun e => HQ.out e.symm), K4.block w.heap.size hl3 (fun x => x)]
        exact hq3
      obtain ⟨m0, m1, m2, m3, m4⟩ := cells5 hb5
      have fq : ∀ k, w5.frozen? ⟨w.heap.size, k, none⟩ = false := fun k => by simp [World.frozen?, hq5]
      have fq0 := fq 0
      have fq1 := fq 1
      have fq2 := fq 2
      have fq3 := fq 3
      have fq4 := fq 4
      obtain ⟨y0, y1, y2, y3, y4⟩ := cells5 hq5
      have hq := HQ.out
      have hq' : ¬ w.heap.size = ab := fun e => hq e.symm
      clear hw5 j0 j1 j2 j3 j4 l0 l1 l2 k2
      go_wp2
      obtain ⟨w6, hw6⟩ : ∃ w6, w6 = set5 w5 w.heap.size (.bool true) (.int .i64 r.to) (.slice p4 (flR 0 r).length cp4) (.int .i64 s.far.1) (.slice p2 n2 cp2) := ⟨_, rfl⟩
      have hw6' := hw6
      unfold set5 at hw6'
      rw [← hw6']
      have h6 : w6.heap[w.heap.size]? = some (.cells #[.bool true, .int .i64 r.to, .slice p4 (flR 0 r).length cp4, .int .i64 s.far.1, .slice p2 n2 cp2] 31 (0, 0)) := by rw [hw6]; exact set5_at hq5 _ _ _ _ _
      have K6 : Kept (fun k => k = w.heap.size) w5 w6 := by rw [hw6]; exact set5_kept _ _ _ _ _ _ _
      obtain ⟨x0, x1, x2, x3, x4⟩ := cells5 h6
      have K46 : Kept (fun k => k = ab ∨ k = w.heap.size) w4 w6 := (K45.mono (fun _ _ e => Or.inl e)).trans (K6.mono (fun _ _ e => Or.inr e))
      have ht := HT.out
      clear hw6 hw6'
      refine bodyPost_ret (v := .agg #[.bool true, .int .i64 r.to, .slice p4 (flR 0 r).length cp4, .int .i64 s.far.1, .slice p2 n2 cp2]) (by simp [results, Tryz.results74, go_sem, x0, x1, x2, x3, x4]) rfl ⟨⟨_, _, _, _, _, _, _, _, rfl, ⟨by simp [ht], by rw [if_neg ht], ?_, ?_⟩⟩, ?_⟩
      · rw [if_neg ht]
        have hO4' : w4.ownsRow w.heap.size 61 4 (.slice p4 (flR 0 r).length cp4) (flR 0 r).length ((flR 0 r).flatMap nodC) := by simpa using hO4
        exact own_kept hO4' K46 (fun i hi e => by
          obtain ⟨c, hc⟩ := ownsRow_obj hO4' hi
          have hc2 : w4.heap[i]? = _ := hc
          rcases e with e | e
          · rw [e, hb4] at hc2; simp at hc2
          · have hl3 := objAt_lt (show objAt w3 w.heap.size = _ from hq3)
            rw [e, K4.block w.heap.size hl3 (fun x => x), hq3] at hc2; simp at hc2)
      · exact own_kept (own_kept (own_base hO3 hKa.size) K4 (fun _ _ x => x)) K46 (fun i hi e => by
          rcases e with e | e
          · exact hfab (by rw [hi]; exact congrArg some e)
          · have h6 := (hO3.lt i hi).1
            have h7 := hwas.out
            omega)
      · exact (K3w.trans K4).then K46 (fun i hi e => by
          rcases e with e | e
          · have hx : ab < w.heap.size := by rw [← e]; exact hi
            have := HAL.out
            have h7 := hwas.out
            omega
          · omega)
end Go.Proofs.YtagklnaaoclmhaaGreatDoor
