import Derived.Test.YtagklnaaoclmhaaGreatDoorKnAM
set_option linter.unusedSimpArgs false
set_option linter.unusedVariables false
namespace Go.Proofs.YtagklnaaoclmhaaGreatDoor
open Go.RowKit

def aayB : ByteArray := ⟨#[97, 97, 121]⟩
def spC : Cf := ⟨2, 2, 255, 3⟩
def spO : Ot := ⟨some 3, [(2, 2), (2, 0), (2, 2)], 2, [⟨1, 0, 2, 1⟩]⟩
theorem spare_mt : mtc (byteAt aayB) aayB.size (read spareB).2 (read spareB).1.ns 9 (isI (read spareB).2 0) 0 1 = some spO := by
  rw [spareB_read.1, spareB_read.2]
  kernel_rfl
theorem spare_mach (br : Nat → Nat) (n : Nat) : (wRun ⟨byteAt aayB, 3, G4r, G4n, br, 3, 0, mcOf 2 2 255 2⟩ (fun j s => wM ⟨byteAt aayB, 3, G4r, G4n, br, 3, 0, mcOf 2 2 255 2⟩ 10 j 0 s) 0 0 (wStart n (ms0 2))).map (fun x => (x.2.mem.hits, x.2.dn)) = some (1, 2) := by kernel_rfl
theorem spare_stats {br : Nat → Nat} {n : Nat} {t : Int} {s' : Wt} {r : Rs} (h : Whole (kOf spareB aayB spC br) n spC.bud spO (9 + 1) t s' r) : s'.mem.hits = 1 ∧ s'.dn = 2 := by
  have h1 := h.run
  have hk : kOf spareB aayB spC br = ⟨byteAt aayB, 3, G4r, G4n, br, 3, 0, mcOf 2 2 255 2⟩ := by
    unfold kOf
    rw [spareB_read.1, spareB_read.2]
    rfl
  rw [hk] at h1
  have h2 := spare_mach br n
  have h1' : wRun ⟨byteAt aayB, 3, G4r, G4n, br, 3, 0, mcOf 2 2 255 2⟩ (fun j s => wM ⟨byteAt aayB, 3, G4r, G4n, br, 3, 0, mcOf 2 2 255 2⟩ 10 j 0 s) 0 0 (wStart n (ms0 2)) = some (t, s') := h1
  rw [h1'] at h2
  simp at h2
  exact h2
set_option maxRecDepth 100000 in
set_option maxHeartbeats 6400000 in
theorem spare_any (w : World) (hT : Tab w) : Calls Tryz.prog 21 #[] w fun e w' => e = .returned (.bool true) ∧ Kept (fun _ => False) w w' := by
  have hop := open_any spareB (by decide) 2 2 255 3 w
  rw [spareB_chk] at hop
  unfold spareB at hop
  go_enter Tryz.func21, Tryz.ntmps21
  go_wp2_with fail
  refine hop.mono ?_
  intro e w1 hO
  have hK1 := hO.kept
  obtain ⟨pb, rfl, hP⟩ := hO.ok rfl (by decide)
  have hP' : Psr w1 pb spareB spC w.heap.size 0 0 0 0 := hP
  have hpar := parse_any hP' (hT.kept hK1 (fun x => x)) (by decide) spare_mt
  have hlow := hP.low
  have HK1 := hide hK1
  unfold aayB at hpar
  clear hO hop hP hP' hK1
  go_wp2_with fail
  refine hpar.mono ?_
  intro e w2 hZ
  have hK2 := hZ.kept
  obtain ⟨B, T, tp, fp, tn, tc, fn, fc, rfl, hA, br, n, t, s', r, hW, hbd, hP2⟩ := hZ.ok (by decide)
  obtain ⟨hh, hd⟩ := spare_stats hW
  rw [hh, hd] at hP2
  have hb : B = true := hA.b
  have ht : T = 3 := hA.t
  have htr : w2.ownsRow w1.heap.size 61 4 (.slice tp tn tc) ([⟨0, 0, 3, 0⟩, ⟨1, 0, 2, 1⟩] : List Nod).length ((([⟨0, 0, 3, 0⟩, ⟨1, 0, 2, 1⟩] : List Nod).map nI).flatMap nodC) := hA.tr
  have hfl : w2.ownsRow w1.heap.size 3 1 (.slice fp fn fc) 2 [i64V 0, i64V 2] := hA.fl
  have hfar : (fAll spO.ev).1 = 2 := rfl
  obtain ⟨gm, cm, hv, _, _⟩ := htr.form (by simp)
  obtain ⟨p2, c2, hv2⟩ := ownsRow_form hfl
  rw [hv] at htr
  have hAt := tr_at htr
  obtain ⟨d0, d1, d2, d3⟩ := hAt.at_ 1 (by simp)
  have d0' : w2.cell? ⟨gm, 4, none⟩ = some (.int .i64 1) := d0
  have d1' : w2.cell? ⟨gm, 5, none⟩ = some (.int .i64 0) := d1
  have d2' : w2.cell? ⟨gm, 6, none⟩ = some (.int .i64 2) := d2
  have d3' : w2.cell? ⟨gm, 7, none⟩ = some (.int .i64 1) := d3
  rw [hfar, hv, hv2, hb, ht]
  clear d0 d1 d2 d3 hAt htr hfl hA hW hZ hpar hv hv2 hb ht hfar
  generalize s'.mem.ent.length = L at *
  have hL : L ≤ 2 := hbd
  obtain ⟨w3, hw3⟩ : ∃ w3, w3 = w2.alloc (.cells #[.bool true, .int .i64 3, .slice (some ⟨gm, 0, none⟩) 2 cm, .int .i64 2, .slice p2 2 c2] 31) := ⟨_, rfl⟩
  have hK3 : Kept (fun _ => False) w2 w3 := by rw [hw3]; exact (Kept.refl _ w2).alloc _
  have hst := stats_of (hP2.same hK3)
  have hq3 : w3.heap[w2.heap.size]? = some (.cells #[.bool true, .int .i64 3, .slice (some ⟨gm, 0, none⟩) 2 cm, .int .i64 2, .slice p2 2 c2] 31 (0, 0)) := by rw [hw3]; exact heap_alloc_new _ _
  have HK2 : Hid (Kept (fun _ => False) w w3) := (((HK1.out.mono (fun _ _ x => x.elim)).trans hK2).mono (fun k hk e => by have e' : k = pb := e; omega)).trans hK3
  have hl2 := lt_cell d0'
  go_wp2_with fail
  rw [← hw3]
  refine hst.mono ?_
  rintro e w4 ⟨rfl, hK4⟩
  have hq4 := (hK4.block w2.heap.size (objAt_lt (show objAt w3 w2.heap.size = _ from hq3)) (fun x => x)).trans hq3
  obtain ⟨w5, hw5⟩ : ∃ w5, w5 = w4.alloc (.cells #[.int .i64 (L : Int), .int .i64 (L : Int), .int .i64 1, .int .i64 2] 73) := ⟨_, rfl⟩
  have hK5 : Kept (fun _ => False) w4 w5 := by rw [hw5]; exact (Kept.refl _ w4).alloc _
  have hq5 := (hK5.block w2.heap.size (objAt_lt (show objAt w4 w2.heap.size = _ from hq4)) (fun x => x)).trans hq4
  have hs5 : w5.heap[w4.heap.size]? = some (.cells #[.int .i64 (L : Int), .int .i64 (L : Int), .int .i64 1, .int .i64 2] 73 (0, 0)) := by rw [hw5]; exact heap_alloc_new _ _
  have y0 : w5.cell? ⟨w4.heap.size, 0, none⟩ = some (.int .i64 (L : Int)) := by simp [World.cell?, hs5]
  have y1 : w5.cell? ⟨w4.heap.size, 1, none⟩ = some (.int .i64 (L : Int)) := by simp [World.cell?, hs5]
  have y2 : w5.cell? ⟨w4.heap.size, 2, none⟩ = some (.int .i64 1) := by simp [World.cell?, hs5]
  have y3 : w5.cell? ⟨w4.heap.size, 3, none⟩ = some (.int .i64 2) := by simp [World.cell?, hs5]
  obtain ⟨x0, x1, x2, x3, x4⟩ := cells5 hq5
  have up : ∀ j v, w2.cell? ⟨gm, j, none⟩ = some v → w5.cell? ⟨gm, j, none⟩ = some v := fun j v h => (((hK3.trans hK4).trans hK5).cell (p := ⟨gm, j, none⟩) (lt_cell h) (fun x => x)).trans h
  have u0 := up _ _ d0'
  have u1 := up _ _ d1'
  have u2 := up _ _ d2'
  have u3 := up _ _ d3'
  have k1 : decide ((L : Int) ≤ 2) = true := decide_eq_true (by omega)
  have k2 : decide ((0 : Int) ≤ (L : Int)) = true := decide_eq_true (by omega)
  have k3 : decide (L ≤ 2) = true := decide_eq_true (by omega)
  have HK5 : Hid (Kept (fun _ => False) w w5) := (HK2.out.trans hK4).trans hK5
  clear hst hw3 up hK2 hK3 hK4 hK5 hq3 hq4 hq5 hs5 hP2 d0' d1' d2' d3' hl2 HK2 HK1 hbd hlow hT
  rw [hw5] at x0 x1 x2 x3 x4 y0 y1 y2 y3 u0 u1 u2 u3
  go_wp2
  rw [← hw5]
  go_ret
  exact ⟨by simp [hL], HK5.out⟩
end Go.Proofs.YtagklnaaoclmhaaGreatDoor
