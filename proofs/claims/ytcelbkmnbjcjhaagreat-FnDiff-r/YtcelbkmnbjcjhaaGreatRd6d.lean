/- The model's l02ReadEra, one way. -/
import Derived.Test.YtcelbkmnbjcjhaaGreatRdBd
namespace Go.Proofs.YtcelbkmnbjcjhaaGreat
open Go.RowKit

/-- the Era that is being made, any one, its texts short. -/
structure EraAny (w0 W : World) (q r : Nat) : Prop where
 ex : ∃ E : EraD, EraSt w0 W q r E ∧ E8 E
theorem lay6_other {W : World} {r q : Nat} (E : EraD) (h : q ≠ r) (j : Nat) : (lay6 W r E).cell? ⟨q, j, none⟩ = W.cell? ⟨q, j, none⟩ := by
 unfold lay6
 rw [World.cell?_setCell_other _ _ _ _ (by simp <;> omega), World.cell?_setCell_other _ _ _ _ (by simp <;> omega), World.cell?_setCell_other _ _ _ _ (by simp <;> omega), World.cell?_setCell_other _ _ _ _ (by simp <;> omega), World.cell?_setCell_other _ _ _ _ (by simp <;> omega), World.cell?_setCell_other _ _ _ _ (by simp <;> omega)]
set_option linter.unusedSimpArgs false in
set_option maxRecDepth 20000 in
set_option maxHeartbeats 8000000 in
theorem rd_Era3 (b o n cap : Nat) (w : World) (s0 s1 s2 : ByteArray) (c0 : w.cell? ⟨b, o, none⟩ = some (.string s0)) (c1 : w.cell? ⟨b, o + 1, none⟩ = some (.string s1)) (c2 : w.cell? ⟨b, o + 2, none⟩ = some (.string s2)) (z0 : s0.size ≤ 8000) (z1 : s1.size ≤ 8000) (z2 : s2.size ≤ 8000) (hn0 : 3 ≤ n) (hn : n ≤ 8001) (hcap : n ≤ cap) (hW : WrdAt w b o n) :
  Calls Tryz.prog 73 #[.slice (some ⟨b, o, none⟩) n cap] w fun e w' => EraP w e w' := by
 have hg : ¬ (n : Int) < 3 := by omega
 have HU : Hid (∀ w, WrdAt w b (o + 3) (n - 3) → 1 ≤ n - 3 → Calls Tryz.prog 91 #[.slice (some ⟨b, o + 3, none⟩) (n - 3 : Nat) (cap - 3 : Nat)] w fun e w' => UntP w e w') := fun w h h1 => rd_Until b (o + 3) (n - 3) (cap - 3) w h1 (by omega) h
 have HW3 : Hid (WrdAt w b (o + 3) (n - 3)) := ⟨fun k hk => by
  obtain ⟨s, h1, h2⟩ := hW.ex (3 + k) (by omega)
  exact ⟨s, by rw [Nat.add_assoc]; exact h1, h2⟩⟩
 clear hW
 have b0 := (era_start w).bel
 have c00 := bkeep c0 b0
 go_enter Tryz.func73, Tryz.ntmps73
 go_wp2_with fail
 refine (spec_l01Offset s0 _ z0).mono ?_
 rintro e w1 ⟨⟨n0, rfl, hq0⟩, hb1⟩
 clear hq0
 have hS1 := (era_start w).call hb1
 have x0 := hS1.c 0 _ rfl
 have y0 := hS1.f 0
 generalize okO s0 = k0 at *
 clear b0 c00 hb1
 go_upto_region 6 with fail
 have hS2 : EraSt w (w1.setCell ⟨w.heap.size + 1, 0, none⟩ (.int .i64 n0)) (w.heap.size + 1) w.heap.size ⟨n0, ⟨#[]⟩, 0, ⟨#[]⟩, 253402300799, ⟨#[119]⟩⟩ := hS1.set (x := .int .i64 0) rfl rfl
 generalize w1.setCell ⟨w.heap.size + 1, 0, none⟩ (.int .i64 n0) = w2 at *
 clear x0 y0 hS1
 have x3 := hS2.c 3 _ rfl
 have y3 := hS2.f 3
 have c22 := bkeep c2 hS2.bel
 go_upto_region 7 with fail
 have hS3 : EraSt w (w2.setCell ⟨w.heap.size + 1, 3, none⟩ (.string s2)) (w.heap.size + 1) w.heap.size ⟨n0, ⟨#[]⟩, 0, s2, 253402300799, ⟨#[119]⟩⟩ := hS2.set (x := .string ⟨#[]⟩) rfl rfl
 generalize w2.setCell ⟨w.heap.size + 1, 3, none⟩ (.string s2) = w3 at *
 clear x3 y3 hS2 c22
 have c13 := bkeep c1 hS3.bel
 go_cut [8, 9] from 31 to 37 (fun x y wx => (∃ sv k1, x = .int .i64 sv ∧ y = .bool k1) ∧ Below w3.heap.size w3 wx)
 case first =>
  go_wp2_with fail
  refine (spec_l01Offset s1 _ z1).mono ?_
  rintro e w4 ⟨⟨sv, rfl, hq1⟩, hb4⟩
  clear hq1
  go_wp2
  go_meet
  exact ⟨⟨_, _, rfl, rfl⟩, hb4⟩
 case rest =>
  obtain ⟨⟨sv, k1, rfl, rfl⟩, hb4⟩ := hcut
  obtain ⟨w4, hw4⟩ : ∃ x : World, x = wc := ⟨_, rfl⟩
  subst hw4
  have hS4 := hS3.call hb4
  have c14 := bkeep c1 hS4.bel
  clear hb4 hS3 c13
  go_step
  go_step
  go_cut [7] from 38 to 54 (fun x wx => (∃ k : Bool, x = .bool k) ∧ EraAny w wx (w.heap.size + 1) w.heap.size)
  case first =>
   cases k1 with
   | false =>
    have hN := fun w => spec_NameRight s1 w (by unfold maxLen; omega)
    cases hnb : nameB s1 with
    | true =>
     rw [hnb] at hN
     have x1 := hS4.c 1 _ rfl
     have y1 := hS4.f 1
     have HA : Hid (EraAny w (w4.setCell ⟨w.heap.size + 1, 1, none⟩ (.string s1)) (w.heap.size + 1) w.heap.size) := ⟨⟨⟨n0, s1, 0, s2, 253402300799, ⟨#[119]⟩⟩, hS4.set (x := .string ⟨#[]⟩) rfl rfl, z1, z2, (show (⟨#[119]⟩ : ByteArray).size ≤ 8000 by decide)⟩⟩
     clear hS4 hnb
     go_wp2_with fail
     refine (hN _).mono ?_
     rintro e w5 ⟨rfl, hw5⟩
     have hw5 := hw5.symm
     subst hw5
     go_wp2
     go_meet
     exact ⟨⟨_, rfl⟩, HA.out⟩
    | false =>
     rw [hnb] at hN
     have HA : Hid (EraAny w w4 (w.heap.size + 1) w.heap.size) := ⟨⟨_, hS4, (show (⟨#[]⟩ : ByteArray).size ≤ 8000 by decide), z2, (show (⟨#[119]⟩ : ByteArray).size ≤ 8000 by decide)⟩⟩
     clear hS4 hnb
     go_wp2_with fail
     refine (hN _).mono ?_
     rintro e w5 ⟨rfl, hw5⟩
     have hw5 := hw5.symm
     subst hw5
     go_wp2
     go_meet
     exact ⟨⟨_, rfl⟩, HA.out⟩
   | true =>
    have hSv := fun w => spec_l02Save sv w
    cases hsv : isB sv (-7200) 7200 with
    | true =>
     rw [hsv] at hSv
     have x2 := hS4.c 2 _ rfl
     have y2 := hS4.f 2
     have HA : Hid (EraAny w (w4.setCell ⟨w.heap.size + 1, 2, none⟩ (.int .i64 sv)) (w.heap.size + 1) w.heap.size) := ⟨⟨⟨n0, ⟨#[]⟩, sv, s2, 253402300799, ⟨#[119]⟩⟩, hS4.set (x := .int .i64 0) rfl rfl, (show (⟨#[]⟩ : ByteArray).size ≤ 8000 by decide), z2, (show (⟨#[119]⟩ : ByteArray).size ≤ 8000 by decide)⟩⟩
     clear hS4 hsv
     go_wp2_with fail
     refine (hSv _).mono ?_
     rintro e w5 ⟨rfl, hw5⟩
     have hw5 := hw5.symm
     subst hw5
     go_wp2
     go_meet
     exact ⟨⟨_, rfl⟩, HA.out⟩
    | false =>
     rw [hsv] at hSv
     clear hsv
     go_wp2_with fail
     refine (hSv _).mono ?_
     rintro e w5 ⟨rfl, hw5⟩
     have hw5 := hw5.symm
     subst hw5
     have hN := fun w => spec_NameRight s1 w (by unfold maxLen; omega)
     cases hnb : nameB s1 with
     | true =>
      rw [hnb] at hN
      have x1 := hS4.c 1 _ rfl
      have y1 := hS4.f 1
      have HA : Hid (EraAny w (w4.setCell ⟨w.heap.size + 1, 1, none⟩ (.string s1)) (w.heap.size + 1) w.heap.size) := ⟨⟨⟨n0, s1, 0, s2, 253402300799, ⟨#[119]⟩⟩, hS4.set (x := .string ⟨#[]⟩) rfl rfl, z1, z2, (show (⟨#[119]⟩ : ByteArray).size ≤ 8000 by decide)⟩⟩
      clear hS4 hnb
      go_wp2_with fail
      refine (hN _).mono ?_
      rintro e w5 ⟨rfl, hw5⟩
      have hw5 := hw5.symm
      subst hw5
      go_wp2
      go_meet
      exact ⟨⟨_, rfl⟩, HA.out⟩
     | false =>
      rw [hnb] at hN
      have HA : Hid (EraAny w w4 (w.heap.size + 1) w.heap.size) := ⟨⟨_, hS4, (show (⟨#[]⟩ : ByteArray).size ≤ 8000 by decide), z2, (show (⟨#[119]⟩ : ByteArray).size ≤ 8000 by decide)⟩⟩
      clear hS4 hnb
      go_wp2_with fail
      refine (hN _).mono ?_
      rintro e w5 ⟨rfl, hw5⟩
      have hw5 := hw5.symm
      subst hw5
      go_wp2
      go_meet
      exact ⟨⟨_, rfl⟩, HA.out⟩
  case rest =>
   obtain ⟨⟨k5, rfl⟩, hA5⟩ := hcut
   clear hS4 c14
   obtain ⟨w5, hw5⟩ : ∃ x : World, x = wc := ⟨_, rfl⟩
   subst hw5
   go_step
   go_step
   go_cut [7] from 55 to 72 (fun x wx => (∃ k : Bool, x = .bool k) ∧ EraAny w wx (w.heap.size + 1) w.heap.size)
   case first =>
    by_cases h3 : 3 < n
    ·
     have hg3 : (3 : Int) < (n : Int) := by omega
     obtain ⟨⟨e0, e1, e2, e3, e4, e5⟩, hS5, hE5⟩ := hA5.ex
     go_wp2_with fail
     refine (HU.out _ (HW3.out.below hS5.bel) (by omega)).mono ?_
     rintro e w6 hP
     obtain ⟨un, fu, bu, rfl, zu, hb6⟩ := hP.ex
     have hS6 := hS5.call hb6
     have x4 := hS6.c 4 _ rfl
     have y4 := hS6.f 4
     clear hS5 hb6 hP hA5 HU
     go_upto_region 16 with fail
     have hS7 : EraSt w (w6.setCell ⟨w.heap.size + 1, 4, none⟩ (.int .i64 un)) (w.heap.size + 1) w.heap.size ⟨e0, e1, e2, e3, un, e5⟩ := hS6.set (x := .int .i64 e4) rfl rfl
     generalize w6.setCell ⟨w.heap.size + 1, 4, none⟩ (.int .i64 un) = w7 at *
     clear x4 y4 hS6
     have x5 := hS7.c 5 _ rfl
     have y5 := hS7.f 5
     go_upto_region 17 with fail
     have hS8 : EraSt w (w7.setCell ⟨w.heap.size + 1, 5, none⟩ (.string fu)) (w.heap.size + 1) w.heap.size ⟨e0, e1, e2, e3, un, fu⟩ := hS7.set (x := .string e5) rfl rfl
     have HA : Hid (EraAny w (w7.setCell ⟨w.heap.size + 1, 5, none⟩ (.string fu)) (w.heap.size + 1) w.heap.size) := ⟨⟨_, hS8, hE5.1, hE5.2.1, zu⟩⟩
     generalize w7.setCell ⟨w.heap.size + 1, 5, none⟩ (.string fu) = w8 at *
     clear x5 y5 hS7 hS8
     cases k5
     all_goals
      go_wp2
      go_meet
      exact ⟨⟨_, rfl⟩, HA.out⟩
    ·
     have hg3 : ¬ (3 : Int) < (n : Int) := by omega
     have HA : Hid (EraAny w w5 (w.heap.size + 1) w.heap.size) := hA5
     clear hA5
     go_wp2
     go_meet
     exact ⟨⟨_, rfl⟩, HA.out⟩
   case rest =>
    obtain ⟨⟨k9, rfl⟩, hA9⟩ := hcut
    obtain ⟨w9, hw9⟩ : ∃ x : World, x = wc := ⟨_, rfl⟩
    subst hw9
    obtain ⟨⟨e0, e1, e2, e3, e4, e5⟩, hS9, hE9⟩ := hA9.ex
    have HS : Hid (EraSt w w9 (w.heap.size + 1) w.heap.size ⟨e0, e1, e2, e3, e4, e5⟩) := hS9
    have z3 : e3.size ≤ 8000 := hE9.2.1
    have k0_ := hS9.c 0 _ rfl
    have k1_ := hS9.c 1 _ rfl
    have k2_ := hS9.c 2 _ rfl
    have k3_ := hS9.c 3 _ rfl
    have k4_ := hS9.c 4 _ rfl
    have k5_ := hS9.c 5 _ rfl
    obtain ⟨x0, d0⟩ := hS9.d 0 (by omega)
    obtain ⟨x1, d1⟩ := hS9.d 1 (by omega)
    obtain ⟨x2, d2⟩ := hS9.d 2 (by omega)
    obtain ⟨x3, d3⟩ := hS9.d 3 (by omega)
    obtain ⟨x4, d4⟩ := hS9.d 4 (by omega)
    obtain ⟨x5, d5⟩ := hS9.d 5 (by omega)
    have g0 := hS9.g 0
    have g1 := hS9.g 1
    have g2 := hS9.g 2
    have g3 := hS9.g 3
    have g4 := hS9.g 4
    have g5 := hS9.g 5
    clear hA9 hA5 hS9 HU HW3
    cases k9 with
    | false =>
     go_upto_region 18 with fail
     go_region
     obtain ⟨w7, hw7⟩ : ∃ x : World, ((((((w9.setCell ⟨w.heap.size, 0, none⟩ (.int .i64 e0)).setCell ⟨w.heap.size, 1, none⟩ (.string e1)).setCell ⟨w.heap.size, 2, none⟩ (.int .i64 e2)).setCell ⟨w.heap.size, 3, none⟩ (.string e3)).setCell ⟨w.heap.size, 4, none⟩ (.int .i64 e4)).setCell ⟨w.heap.size, 5, none⟩ (.string e5)) = x := ⟨_, rfl⟩
     have ht := lay6_at (W := w9) (r := w.heap.size) ⟨e0, e1, e2, e3, e4, e5⟩ HS.out.d
     have hbl : Below w.heap.size w w7 := by rw [← hw7]; exact lay6_bel (W := w9) ⟨e0, e1, e2, e3, e4, e5⟩ HS.out.bel (Nat.le_refl _)
     have hl : lay6 w9 w.heap.size ⟨e0, e1, e2, e3, e4, e5⟩ = w7 := hw7
     rw [hl] at ht
     obtain ⟨t0, t1, t2, t3, t4, t5⟩ := ht
     rw [hw7]
     clear hw7 hl
     go_wp2
     exact bodyPost_ret (v := .tuple #[EraD.v ⟨e0, e1, e2, e3, e4, e5⟩, .bool (decide (3 < (n : Int))), .bool false]) (by simp [results, Tryz.results73, go_sem, EraD.v, t0, t1, t2, t3, t4, t5]) rfl ⟨⟨_, _, _, rfl, hE9, below_drewN hbl _⟩⟩
    | true =>
     have hIs := fun w => spec_l01Is n0 (-86400) 86400 w
     have hFm := fun w => spec_l02Format e3 w (by unfold maxLen; omega)
     generalize fmtB e3 = fb at *
     cases hi : isB n0 (-86400) 86400 with
     | false =>
      rw [hi] at hIs
      clear hi hFm
      go_upto_region 18 with fail
      refine wp_region_noPanic ?_
      refine wp_region_held_drew (S := fun w' => w'.cell? ⟨w.heap.size + 1, 0, none⟩ = some (.int .i64 e0) ∧ w'.cell? ⟨w.heap.size + 1, 1, none⟩ = some (.string e1) ∧ w'.cell? ⟨w.heap.size + 1, 2, none⟩ = some (.int .i64 e2) ∧ w'.cell? ⟨w.heap.size + 1, 3, none⟩ = some (.string e3) ∧ w'.cell? ⟨w.heap.size + 1, 4, none⟩ = some (.int .i64 e4) ∧ w'.cell? ⟨w.heap.size + 1, 5, none⟩ = some (.string e5)) (by kernel_rfl) ⟨k0_, k1_, k2_, k3_, k4_, k5_⟩ (fun hHeld => ?_)
      refine wpAnyH_take (i := 0) (v := ?v0) rfl (by kernel_rfl) (by kernel_rfl) (by kernel_rfl) (fun _ _ _ h => h) (Or.inl ⟨by rfl, ?y0⟩) hHeld ?z0
      case y0 => (intro wq hSw; (try dsimp only at hSw); go_simp; try with_reducible rfl)
      try simp only [Act.put, List.setIfInBounds_toArray, List.set_cons_zero, List.set_cons_succ]
      refine wpAnyH_take (i := 1) (v := ?v1) rfl (by kernel_rfl) (by kernel_rfl) (by kernel_rfl) (fun _ _ _ h => h) (Or.inl ⟨by rfl, ?y1⟩) hHeld ?z1
      case y1 => (intro wq hSw; (try dsimp only at hSw); go_simp; try with_reducible rfl)
      try simp only [Act.put, List.setIfInBounds_toArray, List.set_cons_zero, List.set_cons_succ]
      refine wpAnyH_take (i := 2) (v := ?v2) rfl (by kernel_rfl) (by kernel_rfl) (by kernel_rfl) (fun _ _ _ h => h) (Or.inl ⟨by rfl, ?y2⟩) hHeld ?z2
      case y2 => (intro wq hSw; (try dsimp only at hSw); go_simp; try with_reducible rfl)
      try simp only [Act.put, List.setIfInBounds_toArray, List.set_cons_zero, List.set_cons_succ]
      refine wpAnyH_take (i := 3) (v := ?v3) rfl (by kernel_rfl) (by kernel_rfl) (by kernel_rfl) (fun _ _ _ h => h) (Or.inl ⟨by rfl, ?y3⟩) hHeld ?z3
      case y3 => (intro wq hSw; (try dsimp only at hSw); go_simp; try with_reducible rfl)
      try simp only [Act.put, List.setIfInBounds_toArray, List.set_cons_zero, List.set_cons_succ]
      refine wpAnyH_take (i := 4) (v := ?v4) rfl (by kernel_rfl) (by kernel_rfl) (by kernel_rfl) (fun _ _ _ h => h) (Or.inl ⟨by rfl, ?y4⟩) hHeld ?z4
      case y4 => (intro wq hSw; (try dsimp only at hSw); go_simp; try with_reducible rfl)
      try simp only [Act.put, List.setIfInBounds_toArray, List.set_cons_zero, List.set_cons_succ]
      refine wpAnyH_take (i := 5) (v := ?v5) rfl (by kernel_rfl) (by kernel_rfl) (by kernel_rfl) (fun _ _ _ h => h) (Or.inl ⟨by rfl, ?y5⟩) hHeld ?z5
      case y5 => (intro wq hSw; (try dsimp only at hSw); go_simp; try with_reducible rfl)
      try simp only [Act.put, List.setIfInBounds_toArray, List.set_cons_zero, List.set_cons_succ]
      refine wpAnyH_take (i := 6) (v := ?v6) rfl (by kernel_rfl) (by kernel_rfl) (by kernel_rfl) (fun _ _ _ h => h) (Or.inl ⟨by rfl, ?y6⟩) hHeld ?z6
      case y6 => (intro wq hSw; (try dsimp only at hSw); go_simp; try with_reducible rfl)
      try simp only [Act.put, List.setIfInBounds_toArray, List.set_cons_zero, List.set_cons_succ]
      refine wpAnyH_ready (rs := [7]) (by kernel_rfl) (by simp) ?_
      refine AllReadyH.cons rfl (fun K hK => ?_) AllReadyH.nil
      go_simp
      refine (hIs _).mono ?_
      rintro e wq ⟨rfl, hwq⟩
      have hwq := hwq.symm
      subst hwq
      go_wp2_with fail
      refine hK.out _ _ hHeld (fun hHeld => ?_)
      clear hK K
      try simp only [Act.put, List.setIfInBounds_toArray, List.set_cons_zero, List.set_cons_succ]
      refine wpAnyH_take (i := 8) (v := ?v8) rfl (by kernel_rfl) (by kernel_rfl) (by kernel_rfl) (fun _ _ _ h => h) (Or.inl ⟨by rfl, ?y8⟩) hHeld ?z8
      case y8 => (intro wq hSw; (try dsimp only at hSw); go_simp; try with_reducible rfl)
      try simp only [Act.put, List.setIfInBounds_toArray, List.set_cons_zero, List.set_cons_succ]
      refine wpAnyH_take (i := 9) (v := ?v9) rfl (by kernel_rfl) (by kernel_rfl) (by kernel_rfl) (fun _ _ _ h => h) (Or.inl ⟨by rfl, ?y9⟩) hHeld ?z9
      case y9 => (intro wq hSw; (try dsimp only at hSw); go_simp; try with_reducible rfl)
      try simp only [Act.put, List.setIfInBounds_toArray, List.set_cons_zero, List.set_cons_succ]
      refine wpAnyH_take (i := 10) (v := undef) rfl (by kernel_rfl) (by kernel_rfl) (by kernel_rfl) (fun _ _ _ h => h) (Or.inr ⟨by rfl, rfl⟩) hHeld ?_
      try simp only [Act.put, List.setIfInBounds_toArray, List.set_cons_zero, List.set_cons_succ]
      refine wpAnyH_take (i := 11) (v := undef) rfl (by kernel_rfl) (by kernel_rfl) (by kernel_rfl) (fun _ _ _ h => h) (Or.inr ⟨by rfl, rfl⟩) hHeld ?_
      try simp only [Act.put, List.setIfInBounds_toArray, List.set_cons_zero, List.set_cons_succ]
      refine wpAnyH_take (i := 12) (v := undef) rfl (by kernel_rfl) (by kernel_rfl) (by kernel_rfl) (fun _ _ _ h => h) (Or.inr ⟨by rfl, rfl⟩) hHeld ?_
      try simp only [Act.put, List.setIfInBounds_toArray, List.set_cons_zero, List.set_cons_succ]
      refine wpAnyH_take (i := 13) (v := ?v13) rfl (by kernel_rfl) (by kernel_rfl) (by kernel_rfl) (fun _ _ _ h => h) (Or.inl ⟨by rfl, ?y13⟩) hHeld ?z13
      case y13 => (intro wq hSw; (try dsimp only at hSw); go_simp; try with_reducible rfl)
      try simp only [Act.put, List.setIfInBounds_toArray, List.set_cons_zero, List.set_cons_succ]
      refine wpAnyH_ready (rs := [14]) (by kernel_rfl) (by simp) ?_
      refine AllReadyH.cons rfl (fun K hK => ?_) AllReadyH.nil
      go_simp
      obtain ⟨w7, hw7⟩ : ∃ x : World, ((((((w9.setCell ⟨w.heap.size, 0, none⟩ (.int .i64 e0)).setCell ⟨w.heap.size, 1, none⟩ (.string e1)).setCell ⟨w.heap.size, 2, none⟩ (.int .i64 e2)).setCell ⟨w.heap.size, 3, none⟩ (.string e3)).setCell ⟨w.heap.size, 4, none⟩ (.int .i64 e4)).setCell ⟨w.heap.size, 5, none⟩ (.string e5)) = x := ⟨_, rfl⟩
      have ht := lay6_at (W := w9) (r := w.heap.size) ⟨e0, e1, e2, e3, e4, e5⟩ HS.out.d
      have hbl : Below w.heap.size w w7 := by rw [← hw7]; exact lay6_bel (W := w9) ⟨e0, e1, e2, e3, e4, e5⟩ HS.out.bel (Nat.le_refl _)
      have hl : lay6 w9 w.heap.size ⟨e0, e1, e2, e3, e4, e5⟩ = w7 := hw7
      have p0 : w7.cell? ⟨w.heap.size + 1, 0, none⟩ = some (.int .i64 e0) := by rw [← hl, lay6_other _ (show w.heap.size + 1 ≠ w.heap.size by omega)]; exact k0_
      have p1 : w7.cell? ⟨w.heap.size + 1, 1, none⟩ = some (.string e1) := by rw [← hl, lay6_other _ (show w.heap.size + 1 ≠ w.heap.size by omega)]; exact k1_
      have p2 : w7.cell? ⟨w.heap.size + 1, 2, none⟩ = some (.int .i64 e2) := by rw [← hl, lay6_other _ (show w.heap.size + 1 ≠ w.heap.size by omega)]; exact k2_
      have p3 : w7.cell? ⟨w.heap.size + 1, 3, none⟩ = some (.string e3) := by rw [← hl, lay6_other _ (show w.heap.size + 1 ≠ w.heap.size by omega)]; exact k3_
      have p4 : w7.cell? ⟨w.heap.size + 1, 4, none⟩ = some (.int .i64 e4) := by rw [← hl, lay6_other _ (show w.heap.size + 1 ≠ w.heap.size by omega)]; exact k4_
      have p5 : w7.cell? ⟨w.heap.size + 1, 5, none⟩ = some (.string e5) := by rw [← hl, lay6_other _ (show w.heap.size + 1 ≠ w.heap.size by omega)]; exact k5_
      rw [hl] at ht
      obtain ⟨t0, t1, t2, t3, t4, t5⟩ := ht
      rw [hw7]
      clear hw7 hl
      refine hK.out _ _ ⟨p0, p1, p2, p3, p4, p5⟩ (fun hHeld => ?_)
      clear hK K
      try simp only [Act.put, List.setIfInBounds_toArray, List.set_cons_zero, List.set_cons_succ]
      refine wpAnyH_take (i := 15) (v := ?v15) rfl (by kernel_rfl) (by kernel_rfl) (by kernel_rfl) (fun _ _ _ h => h) (Or.inl ⟨by rfl, ?y15⟩) hHeld ?z15
      case y15 => (intro wq hSw; (try dsimp only at hSw); go_simp; try with_reducible rfl)
      try simp only [Act.put, List.setIfInBounds_toArray, List.set_cons_zero, List.set_cons_succ]
      refine wpAnyH_take (i := 16) (v := ?v16) rfl (by kernel_rfl) (by kernel_rfl) (by kernel_rfl) (fun _ _ _ h => h) (Or.inl ⟨by rfl, ?y16⟩) hHeld ?z16
      case y16 => (intro wq hSw; (try dsimp only at hSw); go_simp; try with_reducible rfl)
      try simp only [Act.put, List.getElem_toArray, List.getElem_cons_succ, List.getElem_cons_zero, List.setIfInBounds_toArray, List.set_cons_zero, List.set_cons_succ]
      refine wpAnyH_done (by kernel_rfl) ?_ _
      refine NoPanic.normal ?_
      clear hHeld p0 p1 p2 p3 p4 p5
      go_wp2
      exact bodyPost_ret (v := .tuple #[EraD.v ⟨e0, e1, e2, e3, e4, e5⟩, .bool (decide (3 < (n : Int))), .bool false]) (by simp [results, Tryz.results73, go_sem, EraD.v, t0, t1, t2, t3, t4, t5]) rfl ⟨⟨_, _, _, rfl, hE9, below_drewN hbl _⟩⟩
     | true =>
      rw [hi] at hIs
      clear hi
      go_upto_region 18 with fail
      go_region_held3 (fun w' => w'.cell? ⟨w.heap.size + 1, 0, none⟩ = some (.int .i64 e0) ∧ w'.cell? ⟨w.heap.size + 1, 1, none⟩ = some (.string e1) ∧ w'.cell? ⟨w.heap.size + 1, 2, none⟩ = some (.int .i64 e2) ∧ w'.cell? ⟨w.heap.size + 1, 3, none⟩ = some (.string e3) ∧ w'.cell? ⟨w.heap.size + 1, 4, none⟩ = some (.int .i64 e4) ∧ w'.cell? ⟨w.heap.size + 1, 5, none⟩ = some (.string e5)) (go_keep) (first | (go_at_call 27; refine (hIs _).mono ?_; rintro e wq ⟨rfl, hwq⟩; have hwq := hwq.symm; subst hwq) | (go_at_call 92; refine (hFm _).mono ?_; rintro e wq ⟨rfl, hwq⟩; have hwq := hwq.symm; subst hwq))
      all_goals
       obtain ⟨w7, hw7⟩ : ∃ x : World, ((((((w9.setCell ⟨w.heap.size, 0, none⟩ (.int .i64 e0)).setCell ⟨w.heap.size, 1, none⟩ (.string e1)).setCell ⟨w.heap.size, 2, none⟩ (.int .i64 e2)).setCell ⟨w.heap.size, 3, none⟩ (.string e3)).setCell ⟨w.heap.size, 4, none⟩ (.int .i64 e4)).setCell ⟨w.heap.size, 5, none⟩ (.string e5)) = x := ⟨_, rfl⟩
       have ht := lay6_at (W := w9) (r := w.heap.size) ⟨e0, e1, e2, e3, e4, e5⟩ HS.out.d
       have hbl : Below w.heap.size w w7 := by rw [← hw7]; exact lay6_bel (W := w9) ⟨e0, e1, e2, e3, e4, e5⟩ (HS.out.bel) (Nat.le_refl _)
       have hl : lay6 w9 w.heap.size ⟨e0, e1, e2, e3, e4, e5⟩ = w7 := hw7
       rw [hl] at ht
       obtain ⟨t0, t1, t2, t3, t4, t5⟩ := ht
       rw [hw7]
       clear hw7 hl
       go_wp2
       exact bodyPost_ret (v := .tuple #[EraD.v ⟨e0, e1, e2, e3, e4, e5⟩, .bool (decide (3 < (n : Int))), .bool fb]) (by simp [results, Tryz.results73, go_sem, EraD.v, t0, t1, t2, t3, t4, t5]) rfl ⟨⟨_, _, _, rfl, hE9, below_drewN hbl _⟩⟩
theorem rd_ReadEra (b o n cap : Nat) (w : World) (hn : n ≤ 8001) (hcap : n ≤ cap) (hW : WrdAt w b o n) :
  Calls Tryz.prog 73 #[.slice (some ⟨b, o, none⟩) n cap] w fun e w' => EraP w e w' := by
 by_cases h : n < 3
 ·
  exact rd_Era2 b o n cap w h
 ·
  obtain ⟨s0, c0, z0⟩ := hW.ex 0 (by omega)
  rw [Nat.add_zero] at c0
  obtain ⟨s1, c1, z1⟩ := hW.ex 1 (by omega)
  obtain ⟨s2, c2, z2⟩ := hW.ex 2 (by omega)
  exact rd_Era3 b o n cap w s0 s1 s2 c0 c1 c2 z0 z1 z2 (by omega) hn hcap hW
end Go.Proofs.YtcelbkmnbjcjhaaGreat
