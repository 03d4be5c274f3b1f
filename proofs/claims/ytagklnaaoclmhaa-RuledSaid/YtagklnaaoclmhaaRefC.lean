import Derived.Test.YtagklnaaoclmhaaRefA
import Derived.Test.YtagklnaaoclmhaaN59
import Derived.Deep.RegionHeld3
import Derived.Deep.RegionLaw
import Derived.Deep.AppendLies
import Derived.OwnWalk
set_option linter.unusedSimpArgs false
set_option linter.unusedVariables false
namespace Go.Proofs.Ytagklnaaoclmhaa
open Go.RowKit
attribute [local go_sem ↓] exec_load59 exec_alloc59 exec_store59 exec_build59 exec_buildSlice36
attribute [local go_sem] load59At_ptr load59Of_some store59At_ptr store59Of_some build59_nil build59_kind build59_term build59_name build59_subs buildSlice36_some objAt_drew objAt_drewN objAt_new objAt_old

theorem own_ne {w : World} {base e size n b e' : Nat} {v : Value} {xs : List Value} {c : Array Value} {fr : Nat × Nat} (h : w.ownsRow base e size v n xs) (hb : w.heap[b]? = some (.cells c e' fr)) (hne : e ≠ e') : v.ownBlock ≠ some b := by
  intro he
  rcases h.2 with ⟨h', _⟩ | ⟨g, cap, cur, h', _, hg, _⟩
  · rw [h'] at he; cases he
  · rw [h'] at he
    simp only [Value.ownBlock, Option.some.injEq] at he
    subst he
    rw [hb] at hg
    simp only [Option.some.injEq, Obj.cells.injEq] at hg
    exact hne hg.2.1.symm

theorem ownsRow_setCell_other {w : World} {base : Nat} {e : TypeId} {size : Nat} {v : Value} {n : Nat} {xs : List Value} (h : w.ownsRow base e size v n xs) {a : Addr} (ha : v.ownBlock ≠ some a.block) (u : Value) : (w.setCell a u).ownsRow base e size v n xs := by
  obtain ⟨h1, h2⟩ := h
  refine ⟨h1, ?_⟩
  rcases h2 with h2 | ⟨g, cap, cur, hv, hg, hh, r⟩
  · exact Or.inl h2
  · refine Or.inr ⟨g, cap, cur, hv, hg, ?_, r⟩
    rw [Below.heap_setCell _ _ _ _ (fun e => ha (by rw [hv, ← e]; rfl))]; exact hh

set_option maxRecDepth 100000 in
set_option maxHeartbeats 1600000 in
theorem add_any (b base n : Nat) (s : ByteArray) (nv rv : Value) (g : Sc) (cs : Array Value) (xs : List Value) (w : World) (hG : Gis w b s nv rv g)
    (hl : cs.size = 262) (h1 : ∀ v ∈ cs.toList, v.oneCell' = true) (hN : w.ownsRow base 59 262 nv n xs) (hn : n ≤ 100000) (hbase : base ≤ w.heap.size) :
    Calls Try.prog 34 #[.pointer (some ⟨b, 0, none⟩), .agg cs] w fun e w' => e = .returned (.int .i64 (n : Int)) ∧ ∃ nv', Gis w' b s nv' rv g ∧ w'.ownsRow base 59 262 nv' (n + 1) (xs ++ cs.toList) ∧
      Kept (fun k => k = b ∨ nv.ownBlock = some k) w w' ∧ (∀ k, nv'.ownBlock = some k → nv.ownBlock = some k ∨ w.heap.size ≤ k) := by
  obtain ⟨i0, hi0, hz0, hz1, hz2⟩ := info59_parts
  obtain ⟨c0, c1, c2, c3, c4, c5, c6⟩ := hG.cells
  have hf := hG.frozen 0
  have lb := hG.lt
  have hl' : 0 + 262 ≤ cs.size := by omega
  have hex : cs.extract 0 (0 + 262) = cs := by rw [← hl, Nat.zero_add]; simp
  have hne : b ≠ w.heap.size := by omega
  have hN1 : nv.ownBlock ≠ some b := own_ne hN hG (by decide)
  have hN2 : nv.ownBlock ≠ some w.heap.size := fun e => by have := (hN.lt _ e).2; omega
  have hnews : ((w.alloc (.cells cs 59)).drew.alloc (.cells cs 59)).heap[w.heap.size + 1]? = some (.cells cs 59 (0, 0)) := by
    have := heap_alloc_new (w.alloc (.cells cs 59)).drew (.cells cs 59)
    simpa using this
  go_enter Try.func34, Try.ntmps34
  go_wp2_with fail
  go_region_law
    ((refine step_append_lies _ (by rfl) _ _ _ (by rfl) base 59 i0 _ 262 336 Try.underlying36 hi0 hz0 hz1 hz2 z59_size (by omega) nv n xs (by rfl) (((hN.alloc _).alloc _).drew)
        ⟨w.heap.size + 1, 0, none⟩ 1 1 cs.toList (by rfl) (by simp [hl]) (World.news_of_block (t := 59) (fr := (0, 0)) hnews) h1
        (by omega) (by simp [maxLen]; omega) (by omega) (by simp; omega) (w.heap.size + 2) (by simp) ?_; intro gg cap w1 hown1 hgrow hat hlt
      have hK1 : Kept (fun k => nv.ownBlock = some k) w w1 := ((((Kept.refl _ w).alloc _).drew).alloc _).grown hgrow (fun k h _ => h)
      have hG1 := hG.kept hK1 hN1
      obtain ⟨d0, d1, d2, d3, d4, d5, d6⟩ := hG1.cells
      have hf1 := hG1.frozen 0))
  all_goals
    have d0' : (w1.setCell ⟨b, 0, none⟩ (Value.slice (some ⟨gg, 0, none⟩) (n + 1) cap)).cell? ⟨b, 0, none⟩ = some (Value.slice (some ⟨gg, 0, none⟩) (n + 1) cap) := World.cell?_setCell_same _ _ _ d0
    go_wp2
    go_ret
    refine ⟨by simp, _, hG1.setNodes _, ?_, (hK1.mono (T := fun k => k = b ∨ nv.ownBlock = some k) (fun k _ h => Or.inr h)).setCell (fun _ => Or.inl rfl) _, ?_⟩
    · exact ownsRow_setCell_other hown1 (by
        intro e
        simp only [Value.ownBlock, Option.some.injEq] at e
        rcases hat with h | h
        · exact hN1 (by rw [h, e])
        · omega) _
    · intro k hk
      simp only [Value.ownBlock, Option.some.injEq] at hk
      subst hk
      rcases hat with h | h
      · exact Or.inl h
      · exact Or.inr (by omega)

end Go.Proofs.Ytagklnaaoclmhaa
