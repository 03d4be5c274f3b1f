import Derived.Test.YtagklnaaoclmhaaGreatDoorFarAM
import Derived.Test.YtagklnaaoclmhaaGreatDoorKnCM
import Derived.Deep.DeepCutAuto
import Derived.Deep.CutBlock
set_option linter.unusedSimpArgs false
set_option linter.unusedVariables false
namespace Go.Proofs.YtagklnaaoclmhaaGreatDoor
open Go.RowKit

set_option maxRecDepth 100000 in
set_option maxHeartbeats 12800000 in
theorem farthest_any (pr : Option Addr) (n cap : Nat) (R : Nat → Int) (at_ c : Int) (w : World) (hR : RawAt w pr n R) (hn : n ≤ maxLen) (ha1 : -9223372036854775808 ≤ at_) (ha2 : at_ ≤ 9223372036854775807) (hc1 : -9223372036854775808 ≤ c) (hc2 : c ≤ 9223372036854775807) (hT : Tab w) :
    Calls Tryz.prog 8 #[.slice pr n cap, .int .i64 at_, .int .i64 c] w fun e w' => e = .returned (.bool true) ∧ Kept (fun _ => False) w w' := by
  unfold maxLen at hn
  have hpk : pkI 5000 20000 = 5000 := by decide
  have hcf := config_any c 5000 hc1 hc2 (by decide) (by decide)
  rw [hpk] at hcf
  clear hpk
  go_enter Tryz.func8, Tryz.ntmps8
  go_wp2_with fail
  refine (hcf _).mono ?_
  rintro e w1 ⟨⟨cs, rfl, ⟨p1, b1, m1, rfl, q1, q2, q3, q4, q5, q6⟩⟩, K01⟩
  have hop := open_any wordsB (by decide) p1 b1 m1 (1 + 5000) w1
  rw [wordsB_chk] at hop
  unfold wordsB at hop
  clear hcf
  go_wp2_with fail
  refine hop.mono ?_
  intro e w2 hO
  have K12 := hO.kept
  obtain ⟨pb, rfl, hP⟩ := hO.ok rfl ⟨⟨q1, q2⟩, ⟨q3, by omega⟩, ⟨q5, q6⟩, by decide, by decide⟩
  have HP := hide hP
  have HLow : Hid (w1.heap.size ≤ pb ∧ w.heap.size ≤ w1.heap.size) := ⟨hP.low, K01.size⟩
  have K02 := K01.trans K12
  have HR1 : Hid (∀ k, k < n → ∃ b o, pr = some ⟨b, o, none⟩ ∧ w2.cell? ⟨b, o + k, none⟩ = some (.int .i64 (R k))) := fun k hk => by
    obtain ⟨b, o, h3, h4⟩ := hR.at_ k hk
    exact ⟨b, o, h3, (K02.cell (p := ⟨b, o + k, none⟩) (lt_cell h4) (fun x => x)).trans h4⟩
  have HR2 := hide hR.bd
  have HT2 := hide (hT.kept K02 (fun x => x))
  have HK02 := hide K02
  clear hop hO hP K01 K12 hR hT K02 q1 q2 q3 q4 q5 q6
  go_upto_block 0 with fail
  obtain ⟨w3, hw3⟩ : ∃ w3, w3 = w2.alloc (.cells #[.string ⟨#[111, 110, 101]⟩, .string ⟨#[116, 119, 111]⟩, .string ⟨#[116, 104, 114, 101, 101]⟩] 9) := ⟨_, rfl⟩
  rw [← hw3]
  have K23 : Kept (fun _ => False) w2 w3 := by rw [hw3]; exact (Kept.refl _ w2).alloc _
  have hb3 : w3.heap[w2.heap.size]? = some (.cells #[.string ⟨#[111, 110, 101]⟩, .string ⟨#[116, 119, 111]⟩, .string ⟨#[116, 104, 114, 101, 101]⟩] 9 (0, 0)) := by rw [hw3]; exact heap_alloc_new _ _
  have s0 : w3.cell? ⟨w2.heap.size, 0, none⟩ = some (.string ⟨#[111, 110, 101]⟩) := by simp [World.cell?, hb3]
  have s1 : w3.cell? ⟨w2.heap.size, 1, none⟩ = some (.string ⟨#[116, 119, 111]⟩) := by simp [World.cell?, hb3]
  have s2 : w3.cell? ⟨w2.heap.size, 2, none⟩ = some (.string ⟨#[116, 104, 114, 101, 101]⟩) := by simp [World.cell?, hb3]
  have HR3 : Hid (∀ k, k < n → ∃ b o, pr = some ⟨b, o, none⟩ ∧ w3.cell? ⟨b, o + k, none⟩ = some (.int .i64 (R k))) := fun k hk => by
    obtain ⟨b, o, h3, h4⟩ := HR1.out k hk
    exact ⟨b, o, h3, (K23.cell (p := ⟨b, o + k, none⟩) (lt_cell h4) (fun x => x)).trans h4⟩
  have HK23 := hide K23
  clear hw3 hb3 HR1 K23
  go_cut [10, 11] (fun s10 s11 wx => ∃ (t : List UInt8), s10 = .string (ba t) ∧ Hid (Wt2 t ∧ t.length ≤ 55) ∧ wx = w3)
  case first =>
    go_wp2_with fail
    go_loopg [10, 11] n (fun r vs vi wx => ∃ (t : List UInt8) (i : Nat), vs = .string (ba t) ∧ vi = .int .i64 (i : Int) ∧ Hid (i + r = n ∧ Wt2 t ∧ t.length ≤ 55) ∧ wx = w3)
    case atStart => exact ⟨[111, 110, 101], 0, rfl, rfl, ⟨by omega, .one, by decide⟩, rfl⟩
    case round =>
      obtain ⟨t, i, rfl, rfl, HX, rfl⟩ := hrel
      obtain ⟨gj, hgj⟩ : ∃ m, m = gk := ⟨gk, rfl⟩
      subst hgj
      have hsz : (ba t).size = t.length := rfl
      have ht55 : t.length ≤ 55 := HX.out.2.2
      by_cases hgo : i < n ∧ t.length < 50
      · obtain ⟨hi, h50⟩ := hgo
        have h50' : (((ba t).size : Nat) : Int) < 50 := by rw [hsz]; omega
        obtain ⟨b, o, hp, hc⟩ := HR3.out i hi
        have hbd := HR2.out i hi
        have hpk := pick_any (R i) 3 hbd.1 hbd.2 (by decide) (by decide)
        have hpb := pkI_bd (c := R i) (n := 3) (by decide)
        subst hp
        generalize pkI (R i) 3 = v at *
        generalize R i = ri at *
        have HM : Hid (gj - 1 < gj) := by have := HX.out; unfold Hid; omega
        have HX2 : Hid (∀ x, x ∈ wds → i + 1 + (gj - 1) = n ∧ Wt2 (t ++ 32 :: x) ∧ (t ++ 32 :: x).length ≤ 55) := fun x hx => ⟨by have := HX.out; omega, HX.out.2.1.more hx, by
          have h5 : x.length ≤ 5 := by
            simp only [wds, List.mem_cons, List.not_mem_nil, or_false] at hx
            rcases hx with rfl | rfl | rfl <;> decide
          simp; omega⟩
        clear HX
        rcases (by omega : v = 0 ∨ v = 1 ∨ v = 2) with rfl | rfl | rfl
        · clear hpb
          go_wp2_with fail
          refine (hpk _).mono ?_
          rintro e w9 ⟨rfl, rfl⟩
          go_wp2
          go_roundg (gj - 1)
          case measure => exact HM.out
          case rel => exact ⟨t ++ 32 :: [111, 110, 101], i + 1, by first | rfl | (congr 1; apply ByteArray.ext; simp [ba]), by go_num, HX2.out _ (by decide), rfl⟩
        · clear hpb
          go_wp2_with fail
          refine (hpk _).mono ?_
          rintro e w9 ⟨rfl, rfl⟩
          go_wp2
          go_roundg (gj - 1)
          case measure => exact HM.out
          case rel => exact ⟨t ++ 32 :: [116, 119, 111], i + 1, by first | rfl | (congr 1; apply ByteArray.ext; simp [ba]), by go_num, HX2.out _ (by decide), rfl⟩
        · clear hpb
          go_wp2_with fail
          refine (hpk _).mono ?_
          rintro e w9 ⟨rfl, rfl⟩
          go_wp2
          go_roundg (gj - 1)
          case measure => exact HM.out
          case rel => exact ⟨t ++ 32 :: [116, 104, 114, 101, 101], i + 1, by first | rfl | (congr 1; apply ByteArray.ext; simp [ba]), by go_num, HX2.out _ (by decide), rfl⟩
      · have hx : (¬ i < n) ∨ (i < n ∧ ¬ (((ba t)).size : Int) < 50) := by
          by_cases h1 : i < n
          · exact .inr ⟨h1, fun h2 => hgo ⟨h1, by rw [hsz] at h2; omega⟩⟩
          · exact .inl h1
        rcases hx with hx | ⟨hx1, hx2⟩
        · go_wp2
          go_meet
          exact ⟨t, rfl, ⟨HX.out.2.1, HX.out.2.2⟩, rfl⟩
        · go_wp2
          go_meet
          exact ⟨t, rfl, ⟨HX.out.2.1, HX.out.2.2⟩, rfl⟩
  case rest =>
  obtain ⟨t, rfl, HX, rfl⟩ := hcut
  clear HR2 HR3 s0 s1 s2
  have hsz : (ba t).size = t.length := rfl
  have ht55 : t.length ≤ 55 := HX.out.2
  have hWt := HX.out.1
  obtain ⟨f1, o1, hm1, hto1, hrn1⟩ := whole_run hWt
  have hP3 := HP.out.same HK23.out
  have hT3 : Tab wc := HT2.out.kept HK23.out (fun x => x)
  have hr5 : ((1 : Int) + 5000).toNat = 5001 := by decide
  have hpar1 := parse_k (G := wordsB) (s := ba t) (by rw [hsz]; omega) (by rw [wordsB_read.1, wordsB_read.2]; exact hm1) wc pb _ _ _ _ _ _ hP3 (by show o1.rn + 1 ≤ ((1 : Int) + 5000).toNat; omega) hT3
  have hB1 : (okD o1).B = true := by show decide (toI o1.to ≠ -1) = true; rw [hto1]; exact decide_eq_true (by show ((t.length : Nat) : Int) ≠ -1; omega)
  have hT1 : (okD o1).T = (t.length : Int) := by
    show (if toI o1.to = -1 then 0 else toI o1.to) = _
    rw [hto1, if_neg (by show ¬ ((t.length : Nat) : Int) = -1; omega)]; rfl
  have hE1 : (okD o1).er = 0 := rfl
  obtain ⟨D1, hD1⟩ : ∃ D, D = okD o1 := ⟨_, rfl⟩
  rw [← hD1] at hpar1 hB1 hT1 hE1
  clear hD1
  have hplt := hP3.lt
  have hlow := hP3.low
  have HP3 := hide hP3
  have HT3 := hide hT3
  have HWt := hide hWt
  have HB : Hid (∀ p (h : p < (ba t).size), t.getD p 0 ≠ 32 → ¬ (((ba t)[p].toNat : Nat) : Int) = 32) := fun p h h1 h2 => h1 (by
    have h3 : (ba t)[p] = t.getD p 0 := by
      have h4 : p < t.length := h
      simp [ba, ByteArray.getElem_eq_getElem_data, List.getD_eq_getElem?_getD, List.getElem?_eq_getElem h4]
    rw [← h3]
    apply UInt8.toNat_inj.1
    have h5 : (32 : UInt8).toNat = 32 := rfl
    omega)
  have HB2 : Hid (∀ p (h : p < (ba t).size), t.getD p 0 = 32 → (((ba t)[p].toNat : Nat) : Int) = 32) := fun p h h1 => by
    have h3 : (ba t)[p] = t.getD p 0 := by
      have h4 : p < t.length := h
      simp [ba, ByteArray.getElem_eq_getElem_data, List.getD_eq_getElem?_getD, List.getElem?_eq_getElem h4]
    rw [h3, h1]; rfl
  clear hP3 hT3 hWt hm1 hto1 hrn1 HX
  go_wp2_with fail
  refine hpar1.mono ?_
  intro e w4 hZ1
  obtain ⟨v1, he, hA1⟩ := hZ1.res
  have he' : e = .returned (.tuple #[v1, .int .i64 0]) := by rw [he, hE1]
  subst he'
  have K34 := hZ1.kept
  obtain ⟨L1, l2, l3, _, PA⟩ := hZ1.ps
  obtain ⟨tp1, tk1, fp1, fk1, rfl, _, _⟩ := hA1.ex
  rw [hB1, hT1]
  obtain ⟨w5, hw5⟩ : ∃ w5, w5 = w4.alloc (.cells #[.bool true, .int .i64 (t.length : Int), .slice tp1 D1.nt tk1, .int .i64 D1.F, .slice fp1 D1.nf fk1] 31) := ⟨_, rfl⟩
  have K45 : Kept (fun _ => False) w4 w5 := by rw [hw5]; exact (Kept.refl _ w4).alloc _
  have hx5 : w5.heap[w4.heap.size]? = some (.cells #[.bool true, .int .i64 (t.length : Int), .slice tp1 D1.nt tk1, .int .i64 D1.F, .slice fp1 D1.nf fk1] 31 (0, 0)) := by rw [hw5]; exact heap_alloc_new _ _
  have K35 : Kept (fun k => k = pb) wc w5 := K34.then K45 (fun _ _ x => x.elim)
  have HPA := hide (PA.same K45)
  have HT5 := hide (HT3.out.kept K35 (HP3.out.ne0 HT3.out))
  have n6 : ¬ w4.heap.size = pb := by have := K34.size; omega
  have HK35 := hide K35
  have hpk := pick_any at_ (((ba t).size : Int) + 1) ha1 ha2 (by omega) (by rw [hsz]; omega)
  have hpb := pkI_bd (c := at_) (n := ((ba t).size : Int) + 1) (by omega)
  generalize pkI at_ (((ba t).size : Int) + 1) = kz at *
  obtain ⟨k, rfl⟩ : ∃ k : Nat, kz = (k : Int) := ⟨kz.toNat, by omega⟩
  have hk : k ≤ t.length := by rw [hsz] at hpb; omega
  clear hpar1 hZ1 K34 K45 K35 PA hA1 he hE1
  go_wp2_with fail
  rw [← hw5]
  clear hw5
  refine (hpk _).mono ?_
  rintro e w6 ⟨rfl, rfl⟩
  clear hpk
  obtain ⟨y0, y1, _, _, _⟩ := cells5 hx5
  obtain ⟨f2, o2, e2, hm2, hto2, hfar2, hrn2, HFr⟩ := broken_run HWt.out k hk
  obtain ⟨u, hu⟩ : ∃ u, u = t.take k ++ 35 :: t.drop k := ⟨_, rfl⟩
  have hstr : (ba t).extract 0 k ++ ⟨#[35]⟩ ++ (ba t).extract k t.length = ba u := by
    rw [hu]
    apply ByteArray.ext
    simp [ba, List.take_of_length_le]
  have hsu : (ba u).size ≤ 60 := by show u.length ≤ 60; rw [hu]; simp; omega
  rw [← hu] at hm2
  have hP6 := HPA.out.same ((Kept.refl (fun _ => False) w6).drew)
  have hT6 : Tab w6.drew := HT5.out.kept ((Kept.refl (fun _ => False) w6).drew) (fun x => x)
  have hpar2 := parse_k (G := wordsB) (s := ba u) hsu (by rw [wordsB_read.1, wordsB_read.2]; exact hm2) w6.drew pb _ _ _ _ _ _ hP6 (by show o2.rn + 1 ≤ ((1 : Int) + 5000).toNat; omega) hT6
  have hP7 := HPA.out.same (((Kept.refl (fun _ => False) w6).alloc (.cells #[.bool false, .int .i64 0, .slice none 0 0, .int .i64 0, .slice none 0 0] 31)).drew)
  have hT7 : Tab (w6.alloc (.cells #[.bool false, .int .i64 0, .slice none 0 0, .int .i64 0, .slice none 0 0] 31)).drew := HT5.out.kept (((Kept.refl (fun _ => False) w6).alloc (.cells #[.bool false, .int .i64 0, .slice none 0 0, .int .i64 0, .slice none 0 0] 31)).drew) (fun x => x)
  have hpar3 := parse_k (G := wordsB) (s := ba u) hsu (by rw [wordsB_read.1, wordsB_read.2]; exact hm2) (w6.alloc (.cells #[.bool false, .int .i64 0, .slice none 0 0, .int .i64 0, .slice none 0 0] 31)).drew pb _ _ _ _ _ _ hP7 (by show o2.rn + 1 ≤ ((1 : Int) + 5000).toNat; omega) hT7
  have hp6 : pb < w6.heap.size := HPA.out.lt
  rw [← hstr] at hpar2 hpar3
  have hB2 : (okD o2).B = false := by show decide (toI o2.to ≠ -1) = false; rw [hto2]; rfl
  have hF2 : (okD o2).F = (e2 : Int) := by show (fAll o2.ev).1 = _; rw [fAll_far, hfar2]
  have hE2 : (okD o2).er = 0 := rfl
  obtain ⟨D2, hD2⟩ : ∃ D, D = okD o2 := ⟨_, rfl⟩
  rw [← hD2] at hpar2 hpar3 hB2 hF2 hE2
  have HFX := hide HFr
  have hck : ∀ W, Kept (fun k => k = pb) w6.drew W → W.cell? ⟨w4.heap.size, 0, none⟩ = some (.bool true) ∧ W.cell? ⟨w4.heap.size, 1, none⟩ = some (.int .i64 (t.length : Int)) := fun W hW => ⟨(hW.cell (p := ⟨w4.heap.size, 0, none⟩) (lt_cell y0) n6).trans y0, (hW.cell (p := ⟨w4.heap.size, 1, none⟩) (lt_cell y1) n6).trans y1⟩
  have hck3 : ∀ W, Kept (fun k => k = pb) (w6.alloc (.cells #[.bool false, .int .i64 0, .slice none 0 0, .int .i64 0, .slice none 0 0] 31)).drew W → (W.cell? ⟨w4.heap.size, 0, none⟩ = some (.bool true) ∧ W.cell? ⟨w4.heap.size, 1, none⟩ = some (.int .i64 (t.length : Int))) ∧ W.heap[w6.heap.size]? = some (.cells #[.bool false, .int .i64 0, .slice none 0 0, .int .i64 0, .slice none 0 0] 31 (0, 0)) := fun W hW => by
    have hx6 : (w6.alloc (.cells #[.bool false, .int .i64 0, .slice none 0 0, .int .i64 0, .slice none 0 0] 31)).drew.heap[w4.heap.size]? = _ := (((Kept.refl (fun _ => False) w6).alloc (.cells #[.bool false, .int .i64 0, .slice none 0 0, .int .i64 0, .slice none 0 0] 31)).drew).blk hx5 (fun x => x)
    obtain ⟨y0', y1', _, _, _⟩ := cells5 (hW.blk hx6 n6)
    refine ⟨⟨y0', y1'⟩, hW.blk ?_ (fun e => by have e' : w6.heap.size = pb := e; omega)⟩
    exact heap_alloc_new w6 _
  have hcz : ∀ W : World, W.heap[w6.heap.size]? = some (.cells #[.bool false, .int .i64 0, .slice none 0 0, .int .i64 0, .slice none 0 0] 31 (0, 0)) → (W.cell? ⟨w6.heap.size, 0, none⟩ = some (.bool false) ∧ W.cell? ⟨w6.heap.size, 1, none⟩ = some (.int .i64 0) ∧ W.cell? ⟨w6.heap.size, 2, none⟩ = some (.slice none 0 0) ∧ W.cell? ⟨w6.heap.size, 3, none⟩ = some (.int .i64 0) ∧ W.cell? ⟨w6.heap.size, 4, none⟩ = some (.slice none 0 0)) ∧ W.frozen? ⟨w6.heap.size, 0, none⟩ = false ∧ W.frozen? ⟨w6.heap.size, 1, none⟩ = false ∧ W.frozen? ⟨w6.heap.size, 2, none⟩ = false ∧ W.frozen? ⟨w6.heap.size, 3, none⟩ = false ∧ W.frozen? ⟨w6.heap.size, 4, none⟩ = false := fun W hW => by
    refine ⟨⟨?_, ?_, ?_, ?_, ?_⟩, ?_, ?_, ?_, ?_, ?_⟩ <;> (first | simp [World.cell?, hW] | simp [World.frozen?, hW])
  have n7 : ¬ w4.heap.size = w6.heap.size := by have := lt_cell y0; omega
  have n8 : ¬ w6.heap.size = w4.heap.size := by omega
  clear hD2 hm2 hto2 hfar2 hrn2 hu hstr hsu hP6 hT6 hP7 hT7 HFr HPA HT5
  have hz1 : ¬ 9223372036854775807 < k + 1 := by omega
  have hz2 : ¬ 9223372036854775807 < k + 1 + (t.length - k) := by omega
  go_upto_region 12 with fail
  go_cut [15, 16] (fun s15 s16 wx => ∃ yb, s15 = .pointer (some ⟨yb, 0, none⟩) ∧ s16 = .int .i64 0 ∧ Hid (Kept (fun _ => False) w wx) ∧ (wx.cell? ⟨w4.heap.size, 0, none⟩ = some (.bool true) ∧ wx.cell? ⟨w4.heap.size, 1, none⟩ = some (.int .i64 (t.length : Int))) ∧ wx.cell? ⟨yb, 0, none⟩ = some (.bool false) ∧ wx.cell? ⟨yb, 3, none⟩ = some (.int .i64 (e2 : Int)))
  case first =>
    go_region_held3 (fun w' => w'.cell? ⟨w4.heap.size, 0, none⟩ = some (.bool true) ∧ w'.cell? ⟨w4.heap.size, 1, none⟩ = some (.int .i64 (t.length : Int))) (go_keep) ((go_at_call 19; first | (refine hpar2.mono ?_; intro e w7 hZ2; obtain ⟨v2, he2, hA2⟩ := hZ2.res; have he2' : e = .returned (.tuple #[v2, .int .i64 0]) := (by rw [he2, hE2]); subst he2'; obtain ⟨tp2, tk2, fp2, fk2, rfl, _, _⟩ := hA2.ex; rw [hB2, hF2]; obtain ⟨z0, z1⟩ := hck w7 hZ2.kept) | (refine hpar3.mono ?_; intro e w7 hZ2; obtain ⟨v2, he2, hA2⟩ := hZ2.res; have he2' : e = .returned (.tuple #[v2, .int .i64 0]) := (by rw [he2, hE2]); subst he2'; obtain ⟨tp2, tk2, fp2, fk2, rfl, _, _⟩ := hA2.ex; rw [hB2, hF2]; obtain ⟨⟨z0, z1⟩, hzz⟩ := hck3 w7 hZ2.kept; obtain ⟨⟨zc0, zc1, zc2, zc3, zc4⟩, zf0, zf1, zf2, zf3, zf4⟩ := hcz w7 hzz)))
    all_goals
      have K67 : Kept (fun k => k = pb) w6 w7 := by
        first
        | exact (Kept.refl _ w6).drew.trans hZ2.kept
        | exact ((Kept.refl _ w6).alloc _).drew.trans hZ2.kept
      obtain ⟨A2, hA2'⟩ : ∃ A : Array Value, A = #[.bool false, .int .i64 D2.T, .slice tp2 D2.nt tk2, .int .i64 (e2 : Int), .slice fp2 D2.nf fk2] := ⟨_, rfl⟩
      first
      | (obtain ⟨w8, hw8⟩ : ∃ w8, w8 = set5 w7 w6.heap.size (.bool false) (.int .i64 D2.T) (.slice tp2 D2.nt tk2) (.int .i64 (e2 : Int)) (.slice fp2 D2.nf fk2) := ⟨_, rfl⟩
         have hw8' := hw8
         unfold set5 at hw8'
         rw [← hw8']
         have hy8 : w8.heap[w6.heap.size]? = some (.cells #[.bool false, .int .i64 D2.T, .slice tp2 D2.nt tk2, .int .i64 (e2 : Int), .slice fp2 D2.nf fk2] 31 (0, 0)) := by rw [hw8]; exact set5_at hzz _ _ _ _ _
         have K78 : Kept (fun k => k = w6.heap.size) w7 w8 := by rw [hw8]; exact set5_kept _ _ _ _ _ _ _
         obtain ⟨yb, hyb⟩ : ∃ yb, yb = w6.heap.size := ⟨_, rfl⟩
         have hyn : ¬ w4.heap.size = yb := by rw [hyb]; exact n7
         have hyl : w6.heap.size ≤ yb := by omega
         rw [← hyb] at hy8 K78 ⊢
         clear hw8 hw8' hyb)
      | (obtain ⟨w8, hw8⟩ : ∃ w8, w8 = w7.alloc (.cells #[.bool false, .int .i64 D2.T, .slice tp2 D2.nt tk2, .int .i64 (e2 : Int), .slice fp2 D2.nf fk2] 31) := ⟨_, rfl⟩
         rw [← hw8]
         have hy8 : w8.heap[w7.heap.size]? = some (.cells #[.bool false, .int .i64 D2.T, .slice tp2 D2.nt tk2, .int .i64 (e2 : Int), .slice fp2 D2.nf fk2] 31 (0, 0)) := by rw [hw8]; exact heap_alloc_new _ _
         obtain ⟨yb, hyb⟩ : ∃ yb, yb = w7.heap.size := ⟨_, rfl⟩
         have K78 : Kept (fun k => k = yb) w7 w8 := by rw [hw8]; exact (Kept.refl _ w7).alloc _
         have hyl : w6.heap.size ≤ yb := by have := K67.size; omega
         have hyn : ¬ w4.heap.size = yb := by have := lt_cell y0; omega
         rw [← hyb] at hy8 ⊢
         clear hw8 hyb)
      have hyn' : ¬ yb = w4.heap.size := fun e => hyn e.symm
      have x80 : w8.cell? ⟨w4.heap.size, 0, none⟩ = some (.bool true) := (K78.cell (p := ⟨w4.heap.size, 0, none⟩) (lt_cell z0) hyn).trans z0
      have x81 : w8.cell? ⟨w4.heap.size, 1, none⟩ = some (.int .i64 (t.length : Int)) := (K78.cell (p := ⟨w4.heap.size, 1, none⟩) (lt_cell z1) hyn).trans z1
      obtain ⟨v80, _, _, v83, _⟩ := cells5 hy8
      have HKF : Hid (Kept (fun _ => False) w w8) := by
        have k1 : Kept (fun k => k = pb ∨ k = yb) w w8 := ((((HK02.out.trans HK23.out).mono (fun _ _ x => x.elim)).trans (HK35.out.mono (fun _ _ x => Or.inl x))).trans (K67.mono (fun _ _ x => Or.inl x))).trans (K78.mono (fun _ _ x => Or.inr x))
        exact k1.mono (fun q hq x => by
          have s1 := (HK02.out.trans HK23.out).size
          have s2 := HK02.out.size
          have s3 := HK35.out.size
          have s4 := HLow.out
          rcases x with x | x <;> omega)
      clear hZ2 hA2 hA2' he2 K67 K78 hy8 y0 y1 z0 z1 hpar2 hpar3 hck hck3 hcz hB2 hF2 hE2
      go_wp2_with fail
      go_meet
      exact ⟨yb, rfl, rfl, HKF.out, ⟨x80, x81⟩, v80, v83⟩
  case rest =>
  obtain ⟨yb, rfl, rfl, HKF, ⟨x80, x81⟩, v80, v83⟩ := hcut
  obtain ⟨w8, hw8⟩ : ∃ x, x = wc := ⟨_, rfl⟩
  subst hw8
  have hfin : Hid ((k = t.length ∨ t.getD k 0 = 32) → e2 = k) := fun h => by
    rcases HFX.out with h2 | ⟨h2, h3, h4, h5, h6⟩
    · exact h2.2
    · rcases h with h | h
      · omega
      · exact absurd h h3
  clear hz1 hz2 y0 y1 hpar2 hpar3 hck hck3 hcz hB2 hF2 hE2
  go_upto_block 2 with fail
  go_cut [17] (fun s17 wx => ∃ m : Nat, s17 = .int .i64 (m : Int) ∧ Hid (¬ (k = t.length ∨ t.getD k 0 = 32) → e2 = m) ∧ wx = w8)
  case first =>
    go_wp2_with fail
    go_loopg [17] k (fun r v wx => ∃ m : Nat, v = .int .i64 (m : Int) ∧ Hid (m = r ∧ m ≤ k ∧ (¬ (k = t.length ∨ t.getD k 0 = 32) → e2 ≤ m)) ∧ wx = w8)
    case atStart => exact ⟨k, rfl, ⟨rfl, Nat.le_refl _, fun h => by
      rcases HFX.out with h1 | h1
      · exact absurd h1.1 h
      · exact h1.2.2.1⟩, rfl⟩
    case round =>
      obtain ⟨m, rfl, HX, rfl⟩ := hrel
      obtain ⟨gj, hgj⟩ : ∃ m, m = gk := ⟨gk, rfl⟩
      subst hgj
      have hmk := HX.out.2.1
      have hgm := HX.out.1
      have HEx : Hid (∀ (_ : m = 0 ∨ (0 < m ∧ t.getD (m - 1) 0 = 32) ∨ (m < t.length ∧ t.getD m 0 = 32)), ¬ (k = t.length ∨ t.getD k 0 = 32) → e2 = m) := fun hx hp => by
        have h1 := HX.out.2.2 hp
        rcases HFX.out with h2 | ⟨h2, h3, h4, h5, h6⟩
        · exact absurd h2.1 hp
        · rcases hx with h7 | ⟨h7, h8⟩ | ⟨h7, h8⟩
          · omega
          · rcases Nat.eq_or_lt_of_le h1 with h9 | h9
            · exact h9
            · exact absurd h8 (h6 (m - 1) (by omega) (by omega))
          · exact absurd h8 (h6 m h1 hmk)
      by_cases hgo : 0 < m ∧ t.getD (m - 1) 0 ≠ 32 ∧ (m = t.length ∨ t.getD m 0 ≠ 32)
      · obtain ⟨g0, g1, g2⟩ := hgo
        obtain ⟨p, rfl⟩ : ∃ p, m = p + 1 := ⟨m - 1, by omega⟩
        rw [Nat.add_sub_cancel] at g1
        have hp1 : p < (ba t).size := by rw [hsz]; omega
        have hb1 : ¬ (((ba t)[p].toNat : Nat) : Int) = 32 := HB.out p hp1 g1
        have hb1e : ((((ba t)[p].toNat : Nat) : Int) == 32) = false := by simpa using hb1
        have hb1n : ((((ba t)[p].toNat : Nat) : Int) != 32) = true := by simpa using hb1
        have HM : Hid (gj - 1 < gj) := by unfold Hid; omega
        have HX' : Hid (p = gj - 1 ∧ p ≤ k ∧ (¬ (k = t.length ∨ t.getD k 0 = 32) → e2 ≤ p)) := ⟨by omega, by omega, fun h => by
          have h1 := HX.out.2.2 h
          rcases HFX.out with h2 | ⟨h2, h3, h4, h5, h6⟩
          · exact absurd h2.1 h
          · rcases Nat.eq_or_lt_of_le h1 with h9 | h9
            · rcases h5 with h5 | h5
              · omega
              · rw [h9, Nat.add_sub_cancel] at h5; exact absurd h5 g1
            · omega⟩
        by_cases g3 : p + 1 = t.length
        · have g3' : (((p : Int) + 1) == (t.length : Int)) = true := by simp; omega
          have g3k : (p : Int) + 1 ≤ (t.length : Int) := by omega
          have g3l : p < t.length := by omega
          have G3 := hide g3
          clear g3
          clear g2 HX hgm HEx
          go_wp2
          go_roundg (gj - 1)
          case measure => exact HM.out
          case rel => exact ⟨p, by first | rfl | go_num | (congr 1; omega), HX'.out, rfl⟩
        · have g4 : t.getD (p + 1) 0 ≠ 32 := by
            rcases g2 with g2 | g2
            · exact absurd g2 g3
            · exact g2
          have hp2 : p + 1 < (ba t).size := by rw [hsz]; omega
          have hb2 : ¬ (((ba t)[p + 1].toNat : Nat) : Int) = 32 := HB.out (p + 1) hp2 g4
          have hb2e : ((((ba t)[p + 1].toNat : Nat) : Int) == 32) = false := by simpa using hb2
          have hb2n : ((((ba t)[p + 1].toNat : Nat) : Int) != 32) = true := by simpa using hb2
          have g3' : (((p : Int) + 1) == (t.length : Int)) = false := by simp; omega
          have g3l : (p : Int) + 1 < (t.length : Int) := by omega
          have g3m : p < t.length := by omega
          clear g2 HX hgm HEx
          go_wp2
          go_roundg (gj - 1)
          case measure => exact HM.out
          case rel => exact ⟨p, by first | rfl | go_num | (congr 1; omega), HX'.out, rfl⟩
      · by_cases c0 : m = 0
        · have hem : Hid (¬ (k = t.length ∨ t.getD k 0 = 32) → e2 = m) := HEx.out (.inl c0)
          clear HEx HX hgm
          subst c0
          go_wp2
          go_meet
          exact ⟨0, rfl, hem.out, rfl⟩
        · by_cases c1 : t.getD (m - 1) 0 = 32
          · have hem : Hid (¬ (k = t.length ∨ t.getD k 0 = 32) → e2 = m) := HEx.out (.inr (.inl ⟨by omega, c1⟩))
            clear HEx HX hgm
            obtain ⟨p, rfl⟩ : ∃ p, m = p + 1 := ⟨m - 1, by omega⟩
            rw [Nat.add_sub_cancel] at c1
            have hp1 : p < (ba t).size := by rw [hsz]; omega
            have hb1 : (((ba t)[p].toNat : Nat) : Int) = 32 := HB2.out p hp1 c1
            have hb1e : ((((ba t)[p].toNat : Nat) : Int) == 32) = true := by simpa using hb1
            have hb1n : ((((ba t)[p].toNat : Nat) : Int) != 32) = false := by simpa using hb1
            clear c0 c1 hgo
            go_wp2
            go_meet
            exact ⟨p + 1, rfl, hem.out, rfl⟩
          · have c2 : m < t.length ∧ t.getD m 0 = 32 := by
              by_cases h1 : m = t.length
              · exact absurd ⟨by omega, c1, .inl h1⟩ hgo
              · by_cases h2 : t.getD m 0 = 32
                · exact ⟨by omega, h2⟩
                · exact absurd ⟨by omega, c1, .inr h2⟩ hgo
            have hem : Hid (¬ (k = t.length ∨ t.getD k 0 = 32) → e2 = m) := HEx.out (.inr (.inr c2))
            clear HEx HX hgm
            obtain ⟨c2, c3⟩ := c2
            obtain ⟨p, rfl⟩ : ∃ p, m = p + 1 := ⟨m - 1, by omega⟩
            rw [Nat.add_sub_cancel] at c1
            have hp1 : p < (ba t).size := by rw [hsz]; omega
            have hb1 : ¬ (((ba t)[p].toNat : Nat) : Int) = 32 := HB.out p hp1 c1
            have hb1e : ((((ba t)[p].toNat : Nat) : Int) == 32) = false := by simpa using hb1
            have hb1n : ((((ba t)[p].toNat : Nat) : Int) != 32) = true := by simpa using hb1
            have hp2 : p + 1 < (ba t).size := by rw [hsz]; omega
            have hb2 : (((ba t)[p + 1].toNat : Nat) : Int) = 32 := HB2.out (p + 1) hp2 c3
            have hb2e : ((((ba t)[p + 1].toNat : Nat) : Int) == 32) = true := by simpa using hb2
            have hb2n : ((((ba t)[p + 1].toNat : Nat) : Int) != 32) = false := by simpa using hb2
            have g3' : (((p : Int) + 1) == (t.length : Int)) = false := by simp; omega
            have g3l : (p : Int) + 1 < (t.length : Int) := by omega
            have g3m : p < t.length := by omega
            clear c0 c1 hgo c3
            go_wp2
            go_meet
            exact ⟨p + 1, rfl, hem.out, rfl⟩
  case rest =>
  obtain ⟨m, rfl, hem, rfl⟩ := hcut
  by_cases hkA : k = t.length
  · have hkA' : ((k : Nat) : Int) = (t.length : Int) := by omega
    have hef := hfin.out (.inl hkA)
    clear hfin hem
    go_wp2
    go_ret
    exact ⟨by simp [hef, hkA], HKF.out⟩
  · by_cases hkB : t.getD k 0 = 32
    · have hk3 : k < (ba t).size := by rw [hsz]; omega
      have hkC : ((k : Int) == (t.length : Int)) = false := by simp; omega
      have hkD : k < t.length := by omega
      have hkBq : (((ba t)[k].toNat : Nat) : Int) = 32 := HB2.out k hk3 hkB
      have hkBqe : ((((ba t)[k].toNat : Nat) : Int) == 32) = true := by simpa using hkBq
      have hkBqn : ((((ba t)[k].toNat : Nat) : Int) != 32) = false := by simpa using hkBq
      have hef := hfin.out (.inr hkB)
      clear hfin hem
      go_wp2
      go_ret
      exact ⟨by simp [hef], HKF.out⟩
    · have hk3 : k < (ba t).size := by rw [hsz]; omega
      have hkC : ((k : Int) == (t.length : Int)) = false := by simp; omega
      have hkD : k < t.length := by omega
      have hkBq : ¬ (((ba t)[k].toNat : Nat) : Int) = 32 := HB.out k hk3 hkB
      have hkBqe : ((((ba t)[k].toNat : Nat) : Int) == 32) = false := by simpa using hkBq
      have hkBqn : ((((ba t)[k].toNat : Nat) : Int) != 32) = true := by simpa using hkBq
      have hem' := hem.out (fun h => h.elim hkA hkB)
      clear hfin hem
      go_wp2
      go_ret
      exact ⟨by simp [hem'], HKF.out⟩
end Go.Proofs.YtagklnaaoclmhaaGreatDoor
