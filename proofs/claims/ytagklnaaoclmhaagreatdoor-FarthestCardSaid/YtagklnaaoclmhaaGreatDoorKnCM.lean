import Derived.Test.YtagklnaaoclmhaaGreatDoorUnAM
set_option linter.unusedSimpArgs false
set_option linter.unusedVariables false
namespace Go.Proofs.YtagklnaaoclmhaaGreatDoor
open Go.RowKit

/-- The code's Check. -/
theorem check_z (s : ByteArray) (w : World) (hm : s.size ≤ maxLen) :
    Calls Tryz.prog 17 #[.string s] w fun e w' => e = .returned (.tuple #[.int .i64 (refChk s).1, .int .i64 (refChk s).2]) ∧ Kept (fun _ => False) w w' := by
  have hrd := read_code s w hm
  generalize refChk s = C at *
  obtain ⟨a, b⟩ := C
  dsimp only
  go_enter Tryz.func17, Tryz.ntmps17
  go_wp2_with fail
  refine hrd.mono ?_
  intro e w1 hOut
  have hK := hOut.kept
  by_cases ha : a = 0
  · obtain ⟨gb, rfl, _⟩ := hOut.ok ha
    clear hOut hrd ha
    go_wp2
    go_ret2
    exact ⟨rfl, hK⟩
  · have he := hOut.bad ha
    subst he
    clear hOut hrd ha
    go_wp2
    go_ret2
    exact ⟨rfl, hK⟩
theorem exs_each : refChk ex0B = (2, 7) ∧ refChk ex1B = (3, 4) ∧ refChk ex2B = (4, 0) ∧ refChk ex3B = (2, 8) ∧ refChk ex4B = (4, 0) ∧ refChk ex5B = (3, 8) ∧ refChk ex6B = (2, 7) ∧ refChk ex7B = (0, 0) := by
  have h := exs_chk
  simp only [List.map_cons, List.map_nil, List.cons.injEq, and_true] at h
  exact h
def exB (k : Nat) : ByteArray := [ex0B, ex1B, ex2B, ex3B, ex4B, ex5B, ex6B, ex7B].getD k ex0B
def exE (k : Nat) : Int := [2, 3, 4, 2, 4, 3, 2, 0].getD k 0
def exA (k : Nat) : Int := [7, 4, 0, 8, 0, 8, 7, 0].getD k 0
theorem ex_at (k : Nat) (hk : k < 8) : refChk (exB k) = (exE k, exA k) ∧ (exB k).size ≤ maxLen := by
  obtain ⟨h0, h1, h2, h3, h4, h5, h6, h7⟩ := exs_each
  rcases (by omega : k = 0 ∨ k = 1 ∨ k = 2 ∨ k = 3 ∨ k = 4 ∨ k = 5 ∨ k = 6 ∨ k = 7) with rfl | rfl | rfl | rfl | rfl | rfl | rfl | rfl
  · exact ⟨h0, by decide⟩
  · exact ⟨h1, by decide⟩
  · exact ⟨h2, by decide⟩
  · exact ⟨h3, by decide⟩
  · exact ⟨h4, by decide⟩
  · exact ⟨h5, by decide⟩
  · exact ⟨h6, by decide⟩
  · exact ⟨h7, by decide⟩

theorem parse_k {G s : ByteArray} {f : Nat} {o : Ot} (hs : s.size ≤ 60) (hf : mtc (byteAt s) s.size (read G).2 (read G).1.ns f (isI (read G).2 0) 0 1 = some o) (w : World) (pb : Nat) (c : Cf) (base a b d e : Nat) (h : Psr w pb G c base a b d e) (hr : o.rn + 1 ≤ c.runs) (hT : Tab w) :
    Calls Tryz.prog 19 #[.pointer (some ⟨pb, 0, none⟩), .string s] w fun e' w' => PdOut (okD o) G c pb base w e' w' := by
  have htr := mtc_tr _ _ _ _ _ hf
  have hc := h.cf.runs.2
  refine (parse_any h hT hs hf).mono ?_
  intro e' w' hZ
  obtain ⟨B, T, tp, fp, tn, tc, fn, fc, he, hA, br, n, t, s', r, hW, hbd, hP2⟩ := hZ.ok hr
  refine ⟨⟨_, he, hA.ana ?_⟩, ⟨_, _, _, hbd, hP2⟩, hZ.kept⟩
  unfold runO
  cases o.to with
  | none => simp
  | some t => simp; omega
theorem AnA.lit {w : World} {g1 g2 c1 c2 t1 t2 : Nat} {xs ys : Array Value} {B : Bool} {T F : Int} {nt nf : Nat} {tc fc : Nat → Int} (h1 : w.heap[g1]? = some (.cells xs t1 (0, 0))) (h2 : w.heap[g2]? = some (.cells ys t2 (0, 0))) (hx : ∀ k, k < nt * 4 → xs[k]? = some (.int .i64 (tc k))) (hy : ∀ k, k < nf → ys[k]? = some (.int .i64 (fc k))) (hl : nt ≤ 100000 ∧ nf ≤ 100000) :
    AnA w (.agg #[.bool B, .int .i64 T, .slice (some ⟨g1, 0, none⟩) nt c1, .int .i64 F, .slice (some ⟨g2, 0, none⟩) nf c2]) B T F nt nf tc fc :=
  ⟨⟨_, _, _, _, rfl, fun k hk => ⟨g1, rfl, by simp only [World.cell?, h1]; exact hx k hk⟩, fun k hk => ⟨g2, rfl, by simp only [World.cell?, h2]; exact hy k hk⟩⟩, hl⟩
theorem AnA.lit0 {w : World} {g1 c1 t1 : Nat} {xs : Array Value} {B : Bool} {T F : Int} {nt : Nat} {tc fc : Nat → Int} (h1 : w.heap[g1]? = some (.cells xs t1 (0, 0))) (hx : ∀ k, k < nt * 4 → xs[k]? = some (.int .i64 (tc k))) (hl : nt ≤ 100000) :
    AnA w (.agg #[.bool B, .int .i64 T, .slice (some ⟨g1, 0, none⟩) nt c1, .int .i64 F, .slice none 0 0]) B T F nt 0 tc fc :=
  ⟨⟨_, _, _, _, rfl, fun k hk => ⟨g1, rfl, by simp only [World.cell?, h1]; exact hx k hk⟩, fun k hk => absurd hk (by omega)⟩, hl, by omega⟩
def aabbB : ByteArray := ⟨#[97, 97, 98, 98]⟩
def aabB : ByteArray := ⟨#[97, 97, 98]⟩
def abB : ByteArray := ⟨#[97, 98]⟩
def bB : ByteArray := ⟨#[98]⟩
def oAabb : Ot := ⟨some 4, [(2, 0)], 2, [⟨0, 1, 3, 1⟩, ⟨0, 2, 2, 2⟩]⟩
def oAab : Ot := ⟨some 0, [(2, 0), (3, 1)], 2, []⟩
def oAb : Ot := ⟨some 2, [], 0, []⟩
def oB : Ot := ⟨some 1, [(0, 0)], 0, []⟩
theorem aabb_mt : mtc (byteAt aabbB) aabbB.size (read absB).2 (read absB).1.ns 12 (isI (read absB).2 0) 0 1 = some oAabb := by
  rw [absB_read.1, absB_read.2]; kernel_rfl
theorem aab_mt : mtc (byteAt aabB) aabB.size (read absB).2 (read absB).1.ns 12 (isI (read absB).2 0) 0 1 = some oAab := by
  rw [absB_read.1, absB_read.2]; kernel_rfl
theorem ab_mt : mtc (byteAt abB) abB.size (read notB).2 (read notB).1.ns 9 (isI (read notB).2 0) 0 1 = some oAb := by
  rw [notB_read.1, notB_read.2]; kernel_rfl
theorem b_mt : mtc (byteAt bB) bB.size (read notB).2 (read notB).1.ns 9 (isI (read notB).2 0) 0 1 = some oB := by
  rw [notB_read.1, notB_read.2]; kernel_rfl
def kC : Cf := ⟨0, 0, 0, 9⟩
set_option maxRecDepth 100000 in
set_option maxHeartbeats 6400000 in
theorem known_any (c : Int) (h1 : -9223372036854775808 ≤ c) (h2 : c ≤ 9223372036854775807) (w : World) (hT : Tab w) :
    Calls Tryz.prog 5 #[.int .i64 c] w fun e w' => e = .returned (.bool true) ∧ Kept (fun _ => False) w w' := by
  have hpb := pkI_bd (c := c) (n := 3) (by decide)
  have hpk := pick_any c 3 h1 h2 (by decide) (by decide)
  obtain ⟨z, hz⟩ : ∃ z, z = pkI c 3 := ⟨_, rfl⟩
  rw [← hz] at hpb hpk
  clear hz
  go_enter Tryz.func5, Tryz.ntmps5
  go_wp2_with fail
  refine (hpk w).mono ?_
  rintro e w1 ⟨rfl, rfl⟩
  rcases (by omega : z = 0 ∨ z = 1 ∨ z = 2) with rfl | rfl | rfl
  · go_wp2
    obtain ⟨w4, hw4⟩ : ∃ w4, w4 = ((w1.alloc (.cells #[.string ⟨#[97, 32, 61, 32, 39, 120, 39]⟩, .string ⟨#[97, 32, 61, 32, 98, 10]⟩, .string ⟨#[97, 32, 61, 32, 97, 32, 39, 120, 39, 10]⟩, .string ⟨#[97, 32, 61, 32, 39, 120, 39, 63, 42, 10]⟩, .string ⟨#[97, 32, 61, 32, 40, 39, 120, 39, 63, 41, 42, 10]⟩, .string ⟨#[97, 32, 61, 32, 39, 120, 39, 10, 97, 32, 61, 32, 39, 121, 39, 10]⟩, .string ⟨#[97, 32, 61, 32, 91, 98, 45, 97, 93, 10]⟩, .string ⟨#[97, 32, 61, 32, 39, 120, 39, 10]⟩] 9)).alloc (.cells #[.int .i64 2, .int .i64 3, .int .i64 4, .int .i64 2, .int .i64 4, .int .i64 3, .int .i64 2, .int .i64 0] 50)).alloc (.cells #[.int .i64 7, .int .i64 4, .int .i64 0, .int .i64 8, .int .i64 0, .int .i64 8, .int .i64 7, .int .i64 0] 3) := ⟨_, rfl⟩
    rw [← hw4]
    have K4 : Kept (fun _ => False) w1 w4 := by rw [hw4]; exact (((Kept.refl _ w1).alloc _).alloc _).alloc _
    have hS : w4.heap[w1.heap.size]? = some (.cells #[.string ⟨#[97, 32, 61, 32, 39, 120, 39]⟩, .string ⟨#[97, 32, 61, 32, 98, 10]⟩, .string ⟨#[97, 32, 61, 32, 97, 32, 39, 120, 39, 10]⟩, .string ⟨#[97, 32, 61, 32, 39, 120, 39, 63, 42, 10]⟩, .string ⟨#[97, 32, 61, 32, 40, 39, 120, 39, 63, 41, 42, 10]⟩, .string ⟨#[97, 32, 61, 32, 39, 120, 39, 10, 97, 32, 61, 32, 39, 121, 39, 10]⟩, .string ⟨#[97, 32, 61, 32, 91, 98, 45, 97, 93, 10]⟩, .string ⟨#[97, 32, 61, 32, 39, 120, 39, 10]⟩] 9 (0, 0)) := by
      rw [hw4, Below.heap_alloc _ _ _ (by simp; omega), Below.heap_alloc _ _ _ (by simp)]; exact heap_alloc_new _ _
    have hE : w4.heap[w1.heap.size + 1]? = some (.cells #[.int .i64 2, .int .i64 3, .int .i64 4, .int .i64 2, .int .i64 4, .int .i64 3, .int .i64 2, .int .i64 0] 50 (0, 0)) := by
      rw [hw4, Below.heap_alloc _ _ _ (by simp)]
      have := heap_alloc_new (w1.alloc (.cells #[.string ⟨#[97, 32, 61, 32, 39, 120, 39]⟩, .string ⟨#[97, 32, 61, 32, 98, 10]⟩, .string ⟨#[97, 32, 61, 32, 97, 32, 39, 120, 39, 10]⟩, .string ⟨#[97, 32, 61, 32, 39, 120, 39, 63, 42, 10]⟩, .string ⟨#[97, 32, 61, 32, 40, 39, 120, 39, 63, 41, 42, 10]⟩, .string ⟨#[97, 32, 61, 32, 39, 120, 39, 10, 97, 32, 61, 32, 39, 121, 39, 10]⟩, .string ⟨#[97, 32, 61, 32, 91, 98, 45, 97, 93, 10]⟩, .string ⟨#[97, 32, 61, 32, 39, 120, 39, 10]⟩] 9)) (.cells #[.int .i64 2, .int .i64 3, .int .i64 4, .int .i64 2, .int .i64 4, .int .i64 3, .int .i64 2, .int .i64 0] 50)
      simpa using this
    have hA : w4.heap[w1.heap.size + 1 + 1]? = some (.cells #[.int .i64 7, .int .i64 4, .int .i64 0, .int .i64 8, .int .i64 0, .int .i64 8, .int .i64 7, .int .i64 0] 3 (0, 0)) := by
      rw [hw4]
      have := heap_alloc_new ((w1.alloc (.cells #[.string ⟨#[97, 32, 61, 32, 39, 120, 39]⟩, .string ⟨#[97, 32, 61, 32, 98, 10]⟩, .string ⟨#[97, 32, 61, 32, 97, 32, 39, 120, 39, 10]⟩, .string ⟨#[97, 32, 61, 32, 39, 120, 39, 63, 42, 10]⟩, .string ⟨#[97, 32, 61, 32, 40, 39, 120, 39, 63, 41, 42, 10]⟩, .string ⟨#[97, 32, 61, 32, 39, 120, 39, 10, 97, 32, 61, 32, 39, 121, 39, 10]⟩, .string ⟨#[97, 32, 61, 32, 91, 98, 45, 97, 93, 10]⟩, .string ⟨#[97, 32, 61, 32, 39, 120, 39, 10]⟩] 9)).alloc (.cells #[.int .i64 2, .int .i64 3, .int .i64 4, .int .i64 2, .int .i64 4, .int .i64 3, .int .i64 2, .int .i64 0] 50)) (.cells #[.int .i64 7, .int .i64 4, .int .i64 0, .int .i64 8, .int .i64 0, .int .i64 8, .int .i64 7, .int .i64 0] 3)
      simpa using this
    have HX : Hid (∀ k, k < 8 → w4.cell? ⟨w1.heap.size, k, none⟩ = some (.string (exB k)) ∧ w4.cell? ⟨w1.heap.size + 1, k, none⟩ = some (.int .i64 (exE k)) ∧ w4.cell? ⟨w1.heap.size + 1 + 1, k, none⟩ = some (.int .i64 (exA k))) := fun k hk => by
      rcases (by omega : k = 0 ∨ k = 1 ∨ k = 2 ∨ k = 3 ∨ k = 4 ∨ k = 5 ∨ k = 6 ∨ k = 7) with rfl | rfl | rfl | rfl | rfl | rfl | rfl | rfl <;>
      exact ⟨by simp only [World.cell?, hS]; rfl, by simp only [World.cell?, hE]; rfl, by simp only [World.cell?, hA]; rfl⟩
    have hck := check_z
    clear hw4 hS hE hA hT hpk
    go_loopg [6] 8 (fun n v wx => ∃ k : Nat, v = .int .i64 (k : Int) ∧ Hid (k + n = 8) ∧ Hid (Kept (fun _ => False) w4 wx))
    case atStart => exact ⟨0, rfl, (by unfold Hid; omega), Kept.refl _ _⟩
    case round =>
      obtain ⟨k, rfl, HK, HW⟩ := hrel
      obtain ⟨gj, hgj⟩ : ∃ m, m = gk := ⟨gk, rfl⟩
      subst hgj
      have hkn := HK.out
      by_cases hk : k < 8
      · obtain ⟨e0, e1, e2⟩ := HX.out k hk
        obtain ⟨hx1, hx2⟩ := ex_at k hk
        have hc := hck (exB k)
        rw [hx1] at hc
        generalize exB k = bB at *
        generalize exE k = bE at *
        generalize exA k = bA at *
        have HM : Hid (gj - 1 < gj) := by unfold Hid; omega
        have HE1 := hide e1
        have HE2 := hide e2
        have u0 := (HW.out.cell (p := ⟨w1.heap.size, k, none⟩) (lt_cell e0) (fun x => x)).trans e0
        have HC := hide hx2
        clear hkn hx1 e0 e1 e2
        go_wp2_with fail
        refine (hc _ HC.out).mono ?_
        rintro e w6 ⟨rfl, K6⟩
        have K46 := HW.out.trans K6
        have u1 := (K46.cell (p := ⟨w1.heap.size + 1, k, none⟩) (lt_cell HE1.out) (fun x => x)).trans HE1.out
        have u2 := (K46.cell (p := ⟨w1.heap.size + 1 + 1, k, none⟩) (lt_cell HE2.out) (fun x => x)).trans HE2.out
        have HK46 := hide K46
        clear hc u0 K6 K46 HE1 HE2 HW
        go_wp2
        go_roundg (gj - 1)
        case measure => exact HM.out
        case rel => exact ⟨k + 1, by go_num, (by have := HK.out; unfold Hid; omega), HK46.out⟩
      · clear hkn
        go_wp2
        go_ret
        exact ⟨rfl, K4.trans HW.out⟩
  · have hop := open_any absB (by decide) 0 0 0 9 w1
    rw [absB_chk] at hop
    unfold absB at hop
    go_wp2_with fail
    refine hop.mono ?_
    intro e w2 hO
    have K12 := hO.kept
    obtain ⟨pb, rfl, hP⟩ := hO.ok rfl (by decide)
    have hP' : Psr w2 pb absB kC w1.heap.size 0 0 0 0 := hP
    have hT2 : Tab w2 := hT.kept K12 (fun x => x)
    have hpar := parse_k (by decide) aabb_mt w2 pb kC _ _ _ _ _ hP' (by decide) hT2
    unfold aabbB at hpar
    have hlow := hP.low
    have hplt := hP.lt
    have HP := hide hP'
    have HT2 := hide hT2
    have HK12 := hide K12
    clear hO hop hP hP' K12 hT2 hpk hT
    go_wp2_with fail
    refine hpar.mono ?_
    intro e w3 hZ1
    obtain ⟨v1, he, hA1⟩ := hZ1.res
    have he' : e = .returned (.tuple #[v1, .int .i64 0]) := he
    subst he'
    have K23 := hZ1.kept
    obtain ⟨L1, l2, l3, _, PA⟩ := hZ1.ps
    obtain ⟨tp1, tk1, fp1, fk1, rfl, _, _⟩ := hA1.ex
    obtain ⟨w4, hw4⟩ : ∃ w4, w4 = w3.alloc (.cells #[.bool (okD oAabb).B, .int .i64 (okD oAabb).T, .slice tp1 (okD oAabb).nt tk1, .int .i64 (okD oAabb).F, .slice fp1 (okD oAabb).nf fk1] 31) := ⟨_, rfl⟩
    have K34 : Kept (fun _ => False) w3 w4 := by rw [hw4]; exact (Kept.refl _ w3).alloc _
    have hx4 : w4.heap[w3.heap.size]? = some (.cells #[.bool (okD oAabb).B, .int .i64 (okD oAabb).T, .slice tp1 (okD oAabb).nt tk1, .int .i64 (okD oAabb).F, .slice fp1 (okD oAabb).nf fk1] 31 (0, 0)) := by rw [hw4]; exact heap_alloc_new _ _
    have K24 : Kept (fun k => k = pb) w2 w4 := K23.then K34 (fun _ _ x => x.elim)
    have PA4 := PA.same K34
    have hT4 : Tab w4 := HT2.out.kept K24 (HP.out.ne0 HT2.out)
    have hpar2 := parse_k (by decide) aab_mt w4 pb kC _ _ _ _ _ PA4 (by decide) hT4
    unfold aabB at hpar2
    have HA4 := hide (hA1.kept K34)
    have HPA4 := hide PA4
    have n6 : ¬ w3.heap.size = pb := by have := K23.size; omega
    have HK24 := hide K24
    clear hpar hZ1 K23 K34 K24 PA PA4 hA1 hT4
    go_wp2_with fail
    rw [← hw4]
    clear hw4
    refine hpar2.mono ?_
    intro e w5 hZ2
    obtain ⟨v2, he2, hA2⟩ := hZ2.res
    have he2' : e = .returned (.tuple #[v2, .int .i64 0]) := he2
    subst he2'
    have K45 := hZ2.kept
    obtain ⟨tp2, tk2, fp2, fk2, rfl, _, _⟩ := hA2.ex
    obtain ⟨w6, hw6⟩ : ∃ w6, w6 = w5.alloc (.cells #[.bool (okD oAab).B, .int .i64 (okD oAab).T, .slice tp2 (okD oAab).nt tk2, .int .i64 (okD oAab).F, .slice fp2 (okD oAab).nf fk2] 31) := ⟨_, rfl⟩
    have K56 : Kept (fun _ => False) w5 w6 := by rw [hw6]; exact (Kept.refl _ w5).alloc _
    have Hs6 : Hid (w6.heap.size = w5.heap.size + 1) := by unfold Hid; rw [hw6]; simp
    have hy6 : w6.heap[w5.heap.size]? = some (.cells #[.bool (okD oAab).B, .int .i64 (okD oAab).T, .slice tp2 (okD oAab).nt tk2, .int .i64 (okD oAab).F, .slice fp2 (okD oAab).nf fk2] 31 (0, 0)) := by rw [hw6]; exact heap_alloc_new _ _
    have K46 : Kept (fun k => k = pb) w4 w6 := K45.then K56 (fun _ _ x => x.elim)
    have hx6 := K46.blk hx4 n6
    have HA6 := hide (HA4.out.other HPA4.out K46)
    have HB6 := hide (hA2.kept K56)
    have HK6 : Hid (Kept (fun _ => False) w1 w6) := (((HK12.out.mono (fun _ _ x => x.elim)).trans HK24.out).trans K46).mono (fun k hk e => by have e' : k = pb := e; omega)
    clear hpar2 hZ2 K45 K56 K46 hA2 hx4 HA4 HPA4 HK24 HK12 HT2 HP
    obtain ⟨x0, x1, x2, x3, x4⟩ := cells5 hx6
    rw [hw6] at x0 x1 x2 x3 x4
    go_wp2_with fail
    rw [← hw6]
    clear hw6 x0 x1 x2 x3 x4
    obtain ⟨w8, hw8⟩ : ∃ w8, w8 = (w6.alloc (.cells #[.int .i64 0, .int .i64 0, .int .i64 4, .int .i64 0, .int .i64 0, .int .i64 1, .int .i64 3, .int .i64 1, .int .i64 0, .int .i64 2, .int .i64 2, .int .i64 2] 61)).alloc (.cells #[.int .i64 0] 3) := ⟨_, rfl⟩
    have K68 : Kept (fun _ => False) w6 w8 := by rw [hw8]; exact ((Kept.refl _ w6).alloc _).alloc _
    have hsz6 : w6.heap.size = w5.heap.size + 1 := Hs6.out
    have hn8 : w8.heap[w5.heap.size + 1]? = some (.cells #[.int .i64 0, .int .i64 0, .int .i64 4, .int .i64 0, .int .i64 0, .int .i64 1, .int .i64 3, .int .i64 1, .int .i64 0, .int .i64 2, .int .i64 2, .int .i64 2] 61 (0, 0)) := by
      rw [hw8, ← hsz6, Below.heap_alloc _ _ _ (by simp)]; exact heap_alloc_new _ _
    have hi8 : w8.heap[w5.heap.size + 1 + 1]? = some (.cells #[.int .i64 0] 3 (0, 0)) := by
      rw [hw8, ← hsz6]
      have := heap_alloc_new (w6.alloc (.cells #[.int .i64 0, .int .i64 0, .int .i64 4, .int .i64 0, .int .i64 0, .int .i64 1, .int .i64 3, .int .i64 1, .int .i64 0, .int .i64 2, .int .i64 2, .int .i64 2] 61)) (.cells #[.int .i64 0] 3)
      simpa using this
    have hlit : AnA w8 (.agg #[.bool true, .int .i64 4, .slice (some ⟨w5.heap.size + 1, 0, none⟩) 3 3, .int .i64 2, .slice (some ⟨w5.heap.size + 1 + 1, 0, none⟩) 1 1]) (okD oAabb).B (okD oAabb).T (okD oAabb).F (okD oAabb).nt (okD oAabb).nf (okD oAabb).tc (okD oAabb).fc :=
      AnA.lit (nt := 3) (nf := 1) hn8 hi8 (fun k hk => by
        match k, hk with
        | 0, _ => rfl
        | 1, _ => rfl
        | 2, _ => rfl
        | 3, _ => rfl
        | 4, _ => rfl
        | 5, _ => rfl
        | 6, _ => rfl
        | 7, _ => rfl
        | 8, _ => rfl
        | 9, _ => rfl
        | 10, _ => rfl
        | 11, _ => rfl) (fun k hk => by
        match k, hk with
        | 0, _ => rfl) (by decide)
    have hsm := same_any (HA6.out.kept K68) hlit
    have hy8 := K68.blk hy6 (fun x => x)
    have HB8 := hide (HB6.out.kept K68)
    have HK8 : Hid (Kept (fun _ => False) w1 w8) := HK6.out.trans K68
    rw [← hw8]
    clear hw8 hlit hn8 hi8 hx6 hy6 HA6 HB6 HK6 K68 hsz6 Hs6
    refine hsm.mono ?_
    rintro e w9 ⟨rfl, K89⟩
    have hy9 := K89.blk hy8 (fun x => x)
    have HB9 := hide (HB8.out.kept K89)
    have HK9 : Hid (Kept (fun _ => False) w1 w9) := HK8.out.trans K89
    obtain ⟨y0, y1, y2, y3, y4⟩ := cells5 hy9
    clear hsm HB8 HK8 K89 hy8
    go_wp2_with fail
    obtain ⟨w11, hw11⟩ : ∃ w11, w11 = (w9.alloc (.cells #[.int .i64 0, .int .i64 0, .int .i64 0, .int .i64 0] 61)).alloc (.cells #[.int .i64 1] 3) := ⟨_, rfl⟩
    have K911 : Kept (fun _ => False) w9 w11 := by rw [hw11]; exact ((Kept.refl _ w9).alloc _).alloc _
    have hn11 : w11.heap[w9.heap.size]? = some (.cells #[.int .i64 0, .int .i64 0, .int .i64 0, .int .i64 0] 61 (0, 0)) := by
      rw [hw11, Below.heap_alloc _ _ _ (by simp)]; exact heap_alloc_new _ _
    have hi11 : w11.heap[w9.heap.size + 1]? = some (.cells #[.int .i64 1] 3 (0, 0)) := by
      rw [hw11]
      have := heap_alloc_new (w9.alloc (.cells #[.int .i64 0, .int .i64 0, .int .i64 0, .int .i64 0] 61)) (.cells #[.int .i64 1] 3)
      simpa using this
    have hlit : AnA w11 (.agg #[.bool true, .int .i64 0, .slice (some ⟨w9.heap.size, 0, none⟩) 1 1, .int .i64 3, .slice (some ⟨w9.heap.size + 1, 0, none⟩) 1 1]) (okD oAab).B (okD oAab).T (okD oAab).F (okD oAab).nt (okD oAab).nf (okD oAab).tc (okD oAab).fc :=
      AnA.lit (nt := 1) (nf := 1) hn11 hi11 (fun k hk => by
        match k, hk with
        | 0, _ => rfl
        | 1, _ => rfl
        | 2, _ => rfl
        | 3, _ => rfl) (fun k hk => by
        match k, hk with
        | 0, _ => rfl) (by decide)
    have hsm2 := same_any (HB9.out.kept K911) hlit
    have HK11 : Hid (Kept (fun _ => False) w1 w11) := HK9.out.trans K911
    rw [← hw11]
    clear hw11 hlit hn11 hi11 hy9 HB9 HK9 K911 y0 y1 y2 y3 y4
    refine hsm2.mono ?_
    rintro e w12 ⟨rfl, K12⟩
    have HK12 : Hid (Kept (fun _ => False) w1 w12) := HK11.out.trans K12
    clear hsm2 K12 HK11
    go_wp2
    go_ret
    exact ⟨rfl, HK12.out⟩
  · have hop := open_any notB (by decide) 0 0 0 9 w1
    rw [notB_chk] at hop
    unfold notB at hop
    go_wp2_with fail
    refine hop.mono ?_
    intro e w2 hO
    have K12 := hO.kept
    obtain ⟨pb, rfl, hP⟩ := hO.ok rfl (by decide)
    have hP' : Psr w2 pb notB kC w1.heap.size 0 0 0 0 := hP
    have hTa : Tab w2 := hT.kept K12 (fun x => x)
    have hspr := spare_any w2 hTa
    have HPa := hide hP'
    have HKa := hide K12
    clear hO hop hP hP' K12 hpk hT
    go_wp2_with fail
    refine hspr.mono ?_
    rintro e w2' ⟨rfl, Kab⟩
    have hP' := HPa.out.same Kab
    have K12 : Kept (fun _ => False) w1 w2' := HKa.out.trans Kab
    have hT2 : Tab w2' := hTa.kept Kab (fun x => x)
    have hpar := parse_k (by decide) ab_mt w2' pb kC _ _ _ _ _ hP' (by decide) hT2
    unfold abB at hpar
    have hlow := hP'.low
    have hplt := hP'.lt
    have HP := hide hP'
    have HT2 := hide hT2
    have HK12 := hide K12
    clear hspr HPa HKa Kab hTa hP' K12 hT2
    go_wp2_with fail
    refine hpar.mono ?_
    intro e w3 hZ1
    obtain ⟨v1, he, hA1⟩ := hZ1.res
    have he' : e = .returned (.tuple #[v1, .int .i64 0]) := he
    subst he'
    have K23 := hZ1.kept
    obtain ⟨L1, l2, l3, _, PA⟩ := hZ1.ps
    obtain ⟨tp1, tk1, fp1, fk1, rfl, _, _⟩ := hA1.ex
    obtain ⟨w4, hw4⟩ : ∃ w4, w4 = w3.alloc (.cells #[.bool (okD oAb).B, .int .i64 (okD oAb).T, .slice tp1 (okD oAb).nt tk1, .int .i64 (okD oAb).F, .slice fp1 (okD oAb).nf fk1] 31) := ⟨_, rfl⟩
    have K34 : Kept (fun _ => False) w3 w4 := by rw [hw4]; exact (Kept.refl _ w3).alloc _
    have hx4 : w4.heap[w3.heap.size]? = some (.cells #[.bool (okD oAb).B, .int .i64 (okD oAb).T, .slice tp1 (okD oAb).nt tk1, .int .i64 (okD oAb).F, .slice fp1 (okD oAb).nf fk1] 31 (0, 0)) := by rw [hw4]; exact heap_alloc_new _ _
    have K24 : Kept (fun k => k = pb) w2' w4 := K23.then K34 (fun _ _ x => x.elim)
    have PA4 := PA.same K34
    have hT4 : Tab w4 := HT2.out.kept K24 (HP.out.ne0 HT2.out)
    have hpar2 := parse_k (by decide) b_mt w4 pb kC _ _ _ _ _ PA4 (by decide) hT4
    unfold bB at hpar2
    have HA4 := hide (hA1.kept K34)
    have HPA4 := hide PA4
    have n6 : ¬ w3.heap.size = pb := by have := K23.size; omega
    have HK24 := hide K24
    clear hpar hZ1 K23 K34 K24 PA PA4 hA1 hT4
    go_wp2_with fail
    rw [← hw4]
    clear hw4
    refine hpar2.mono ?_
    intro e w5 hZ2
    obtain ⟨v2, he2, hA2⟩ := hZ2.res
    have he2' : e = .returned (.tuple #[v2, .int .i64 0]) := he2
    subst he2'
    have K45 := hZ2.kept
    obtain ⟨tp2, tk2, fp2, fk2, rfl, _, _⟩ := hA2.ex
    obtain ⟨w6, hw6⟩ : ∃ w6, w6 = w5.alloc (.cells #[.bool (okD oB).B, .int .i64 (okD oB).T, .slice tp2 (okD oB).nt tk2, .int .i64 (okD oB).F, .slice fp2 (okD oB).nf fk2] 31) := ⟨_, rfl⟩
    have K56 : Kept (fun _ => False) w5 w6 := by rw [hw6]; exact (Kept.refl _ w5).alloc _
    have Hs6 : Hid (w6.heap.size = w5.heap.size + 1) := by unfold Hid; rw [hw6]; simp
    have hy6 : w6.heap[w5.heap.size]? = some (.cells #[.bool (okD oB).B, .int .i64 (okD oB).T, .slice tp2 (okD oB).nt tk2, .int .i64 (okD oB).F, .slice fp2 (okD oB).nf fk2] 31 (0, 0)) := by rw [hw6]; exact heap_alloc_new _ _
    have K46 : Kept (fun k => k = pb) w4 w6 := K45.then K56 (fun _ _ x => x.elim)
    have hx6 := K46.blk hx4 n6
    have HA6 := hide (HA4.out.other HPA4.out K46)
    have HB6 := hide (hA2.kept K56)
    have HK6 : Hid (Kept (fun _ => False) w1 w6) := (((HK12.out.mono (fun _ _ x => x.elim)).trans HK24.out).trans K46).mono (fun k hk e => by have e' : k = pb := e; omega)
    clear hpar2 hZ2 K45 K56 K46 hA2 hx4 HA4 HPA4 HK24 HK12 HT2 HP
    obtain ⟨x0, x1, x2, x3, x4⟩ := cells5 hx6
    rw [hw6] at x0 x1 x2 x3 x4
    go_wp2_with fail
    rw [← hw6]
    clear hw6 x0 x1 x2 x3 x4
    obtain ⟨w8, hw8⟩ : ∃ w8, w8 = w6.alloc (.cells #[.int .i64 0, .int .i64 0, .int .i64 2, .int .i64 0] 61) := ⟨_, rfl⟩
    have K68 : Kept (fun _ => False) w6 w8 := by rw [hw8]; exact (Kept.refl _ w6).alloc _
    have hsz6 : w6.heap.size = w5.heap.size + 1 := Hs6.out
    have hn8 : w8.heap[w5.heap.size + 1]? = some (.cells #[.int .i64 0, .int .i64 0, .int .i64 2, .int .i64 0] 61 (0, 0)) := by
      rw [hw8, ← hsz6]; exact heap_alloc_new _ _
    have hlit : AnA w8 (.agg #[.bool true, .int .i64 2, .slice (some ⟨w5.heap.size + 1, 0, none⟩) 1 1, .int .i64 (-1), .slice none 0 0]) (okD oAb).B (okD oAb).T (okD oAb).F (okD oAb).nt (okD oAb).nf (okD oAb).tc (okD oAb).fc :=
      AnA.lit0 (nt := 1) hn8 (fun k hk => by
        match k, hk with
        | 0, _ => rfl
        | 1, _ => rfl
        | 2, _ => rfl
        | 3, _ => rfl) (by decide)
    have hsm := same_any (HA6.out.kept K68) hlit
    have hy8 := K68.blk hy6 (fun x => x)
    have HB8 := hide (HB6.out.kept K68)
    have HK8 : Hid (Kept (fun _ => False) w1 w8) := HK6.out.trans K68
    rw [← hw8]
    clear hw8 hlit hn8 hx6 hy6 HA6 HB6 HK6 K68 hsz6 Hs6
    refine hsm.mono ?_
    rintro e w9 ⟨rfl, K89⟩
    have hy9 := K89.blk hy8 (fun x => x)
    have HB9 := hide (HB8.out.kept K89)
    have HK9 : Hid (Kept (fun _ => False) w1 w9) := HK8.out.trans K89
    obtain ⟨y0, y1, y2, y3, y4⟩ := cells5 hy9
    clear hsm HB8 HK8 K89 hy8
    go_wp2_with fail
    obtain ⟨w11, hw11⟩ : ∃ w11, w11 = (w9.alloc (.cells #[.int .i64 0, .int .i64 0, .int .i64 1, .int .i64 0] 61)).alloc (.cells #[.int .i64 0] 3) := ⟨_, rfl⟩
    have K911 : Kept (fun _ => False) w9 w11 := by rw [hw11]; exact ((Kept.refl _ w9).alloc _).alloc _
    have hn11 : w11.heap[w9.heap.size]? = some (.cells #[.int .i64 0, .int .i64 0, .int .i64 1, .int .i64 0] 61 (0, 0)) := by
      rw [hw11, Below.heap_alloc _ _ _ (by simp)]; exact heap_alloc_new _ _
    have hi11 : w11.heap[w9.heap.size + 1]? = some (.cells #[.int .i64 0] 3 (0, 0)) := by
      rw [hw11]
      have := heap_alloc_new (w9.alloc (.cells #[.int .i64 0, .int .i64 0, .int .i64 1, .int .i64 0] 61)) (.cells #[.int .i64 0] 3)
      simpa using this
    have hlit : AnA w11 (.agg #[.bool true, .int .i64 1, .slice (some ⟨w9.heap.size, 0, none⟩) 1 1, .int .i64 0, .slice (some ⟨w9.heap.size + 1, 0, none⟩) 1 1]) (okD oB).B (okD oB).T (okD oB).F (okD oB).nt (okD oB).nf (okD oB).tc (okD oB).fc :=
      AnA.lit (nt := 1) (nf := 1) hn11 hi11 (fun k hk => by
        match k, hk with
        | 0, _ => rfl
        | 1, _ => rfl
        | 2, _ => rfl
        | 3, _ => rfl) (fun k hk => by
        match k, hk with
        | 0, _ => rfl) (by decide)
    have hsm2 := same_any (HB9.out.kept K911) hlit
    have HK11 : Hid (Kept (fun _ => False) w1 w11) := HK9.out.trans K911
    rw [← hw11]
    clear hw11 hlit hn11 hi11 hy9 HB9 HK9 K911 y0 y1 y2 y3 y4
    refine hsm2.mono ?_
    rintro e w12 ⟨rfl, K12⟩
    have HK12 : Hid (Kept (fun _ => False) w1 w12) := HK11.out.trans K12
    clear hsm2 K12 HK11
    go_wp2
    go_ret
    exact ⟨rfl, HK12.out⟩
end Go.Proofs.YtagklnaaoclmhaaGreatDoor
