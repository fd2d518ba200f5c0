/- The model's l02ReadRule: safe, and the shape of what it tells. -/
import Derived.Test.YtcelbkmnbjcjhaaGreatRdBd
namespace Go.Proofs.YtcelbkmnbjcjhaaGreat
open Go.RowKit

/-- the Rule that is being made, any one, its texts short. -/
structure RuleAny (w0 W : World) (q r : Nat) : Prop where
 ex : ∃ R : RuleD, RuleSt w0 W q r R ∧ R8 R
set_option maxRecDepth 20000 in
set_option maxHeartbeats 8000000 in
theorem rd_Rule10 (b o cap : Nat) (w : World) (hW : WrdAt w b o 10) :
  Calls Tryz.prog 74 #[.slice (some ⟨b, o, none⟩) 10 cap] w fun e w' => RuleP w e w' := by
 obtain ⟨s4, c4, z4⟩ := hW.ex 4 (by omega)
 have hB := fun o => (Below.refl w.heap.size w).alloc (Nat.le_refl _) o
 have c4a := bkeep c4 (hB (.cells #[.string ⟨#[]⟩, .int .i64 0, .int .i64 0, .int .i64 0, .string ⟨#[]⟩, .int .i64 0, .string ⟨#[]⟩, .int .i64 0, .string ⟨#[]⟩] 117))
 cases h4 : (s4.toList == [45]) with
 | false =>
  go_enter Tryz.func74, Tryz.ntmps74
  go_wp2
  exact bodyPost_ret (v := .tuple #[ruleZ.v, .bool false]) (by simp [results, Tryz.results74, go_sem, ruleZ, RuleD.v]) rfl ⟨⟨_, _, rfl, by unfold R8 ruleZ; decide, hB _⟩⟩
 | true =>
  go_enter Tryz.func74, Tryz.ntmps74
  obtain ⟨s1, c1, z1⟩ := hW.ex 1 (by omega)
  obtain ⟨s2, c2, z2⟩ := hW.ex 2 (by omega)
  obtain ⟨s3, c3, z3⟩ := hW.ex 3 (by omega)
  obtain ⟨s5, c5, z5⟩ := hW.ex 5 (by omega)
  obtain ⟨s6, c6, z6⟩ := hW.ex 6 (by omega)
  obtain ⟨s7, c7, z7⟩ := hW.ex 7 (by omega)
  obtain ⟨s8, c8, z8⟩ := hW.ex 8 (by omega)
  obtain ⟨s9, c9, z9⟩ := hW.ex 9 (by omega)
  have hY := fun s (h : ByteArray.size s ≤ 8000) w => rd_Y s w h
  have hMo := fun w => rd_Month s5 w
  go_upto_region 3 with fail
  obtain ⟨wA, hwA⟩ : ∃ x : World, (w.alloc (.cells #[.string ⟨#[]⟩, .int .i64 0, .int .i64 0, .int .i64 0, .string ⟨#[]⟩, .int .i64 0, .string ⟨#[]⟩, .int .i64 0, .string ⟨#[]⟩] 117)) = x := ⟨_, rfl⟩
  have bA : Below w.heap.size w wA := by rw [← hwA]; exact hB _
  have HsA : Hid (wA.heap.size = w.heap.size + 1) := by rw [← hwA]; simp [Hid]
  have rA : ∀ j, j < 9 → ∃ x, wA.cell? ⟨w.heap.size, j, none⟩ = some x := fun j hj => by
   rw [← hwA]
   obtain rfl | rfl | rfl | rfl | rfl | rfl | rfl | rfl | rfl : j = 0 ∨ j = 1 ∨ j = 2 ∨ j = 3 ∨ j = 4 ∨ j = 5 ∨ j = 6 ∨ j = 7 ∨ j = 8 := by omega
   all_goals exact ⟨_, by simp [go_sem]; rfl⟩
  have fA : ∀ j, wA.frozen? ⟨w.heap.size, j, none⟩ = false := fun j => by rw [← hwA]; simp [go_sem]
  have a1 := bkeep c1 bA
  have a2 := bkeep c2 bA
  have a3 := bkeep c3 bA
  have a5 := bkeep c5 bA
  have a6 := bkeep c6 bA
  have a9 := bkeep c9 bA
  rw [hwA]
  have HrA : Hid (∀ j, j < 9 → ∃ x, wA.cell? ⟨w.heap.size, j, none⟩ = some x) := rA
  have HfA : Hid (∀ j, wA.frozen? ⟨w.heap.size, j, none⟩ = false) := fA
  clear hwA hB c4a rA fA
  go_cut [4] from 20 to 41 (fun x wx => ∃ q R, x = .pointer (some ⟨q, 0, none⟩) ∧ RuleSt w wx q w.heap.size R ∧ R8 R)
  case first =>
   go_region_held3 (fun w' => w'.cell? ⟨b, o + 1, none⟩ = some (.string s1) ∧ w'.cell? ⟨b, o + 2, none⟩ = some (.string s2) ∧ w'.cell? ⟨b, o + 3, none⟩ = some (.string s3) ∧ w'.cell? ⟨b, o + 5, none⟩ = some (.string s5) ∧ w'.cell? ⟨b, o + 6, none⟩ = some (.string s6) ∧ w'.cell? ⟨b, o + 9, none⟩ = some (.string s9)) (go_keep) (first | (go_at_call 94; refine (hMo _).mono ?_; rintro e wM ⟨m, rfl, m1, m2, hbM⟩; have b1 := bkeep (w1 := wA.drew) a1 hbM; have b2 := bkeep (w1 := wA.drew) a2 hbM; have b3 := bkeep (w1 := wA.drew) a3 hbM; have b5 := bkeep (w1 := wA.drew) a5 hbM; have b6 := bkeep (w1 := wA.drew) a6 hbM; have b9 := bkeep (w1 := wA.drew) a9 hbM; have nbA : wM.heap.size ≠ b := World.new_ne wM _ b1) | (go_at_call 94; refine (hMo _).mono ?_; rintro e wM ⟨m, rfl, m1, m2, hbM⟩; have b1 := bkeep (w1 := wA.drew.alloc (.cells #[.string ⟨#[]⟩, .int .i64 0, .int .i64 0, .int .i64 0, .string ⟨#[]⟩, .int .i64 0, .string ⟨#[]⟩, .int .i64 0, .string ⟨#[]⟩] 117)) (bkeep (w1 := wA.drew) a1 ((Below.refl _ _).alloc (Nat.le_refl _) _)) hbM; have b2 := bkeep (w1 := wA.drew.alloc (.cells #[.string ⟨#[]⟩, .int .i64 0, .int .i64 0, .int .i64 0, .string ⟨#[]⟩, .int .i64 0, .string ⟨#[]⟩, .int .i64 0, .string ⟨#[]⟩] 117)) (bkeep (w1 := wA.drew) a2 ((Below.refl _ _).alloc (Nat.le_refl _) _)) hbM; have b3 := bkeep (w1 := wA.drew.alloc (.cells #[.string ⟨#[]⟩, .int .i64 0, .int .i64 0, .int .i64 0, .string ⟨#[]⟩, .int .i64 0, .string ⟨#[]⟩, .int .i64 0, .string ⟨#[]⟩] 117)) (bkeep (w1 := wA.drew) a3 ((Below.refl _ _).alloc (Nat.le_refl _) _)) hbM; have b5 := bkeep (w1 := wA.drew.alloc (.cells #[.string ⟨#[]⟩, .int .i64 0, .int .i64 0, .int .i64 0, .string ⟨#[]⟩, .int .i64 0, .string ⟨#[]⟩, .int .i64 0, .string ⟨#[]⟩] 117)) (bkeep (w1 := wA.drew) a5 ((Below.refl _ _).alloc (Nat.le_refl _) _)) hbM; have b6 := bkeep (w1 := wA.drew.alloc (.cells #[.string ⟨#[]⟩, .int .i64 0, .int .i64 0, .int .i64 0, .string ⟨#[]⟩, .int .i64 0, .string ⟨#[]⟩, .int .i64 0, .string ⟨#[]⟩] 117)) (bkeep (w1 := wA.drew) a6 ((Below.refl _ _).alloc (Nat.le_refl _) _)) hbM; have b9 := bkeep (w1 := wA.drew.alloc (.cells #[.string ⟨#[]⟩, .int .i64 0, .int .i64 0, .int .i64 0, .string ⟨#[]⟩, .int .i64 0, .string ⟨#[]⟩, .int .i64 0, .string ⟨#[]⟩] 117)) (bkeep (w1 := wA.drew) a9 ((Below.refl _ _).alloc (Nat.le_refl _) _)) hbM; have nbB : wA.heap.size ≠ b := World.new_ne wA _ a1; have q0 : wM.cell? ⟨wA.heap.size, 0, none⟩ = some (.string ⟨#[]⟩) := bkeep (w1 := (wA.drew.alloc (.cells #[.string ⟨#[]⟩, .int .i64 0, .int .i64 0, .int .i64 0, .string ⟨#[]⟩, .int .i64 0, .string ⟨#[]⟩, .int .i64 0, .string ⟨#[]⟩] 117))) (by simp [go_sem]) hbM; have f0 : wM.frozen? ⟨wA.heap.size, 0, none⟩ = false := ((bcell hbM).2 _ _ (by simp)).trans (by simp [go_sem]); have q1 : wM.cell? ⟨wA.heap.size, 1, none⟩ = some (.int .i64 0) := bkeep (w1 := (wA.drew.alloc (.cells #[.string ⟨#[]⟩, .int .i64 0, .int .i64 0, .int .i64 0, .string ⟨#[]⟩, .int .i64 0, .string ⟨#[]⟩, .int .i64 0, .string ⟨#[]⟩] 117))) (by simp [go_sem]) hbM; have f1 : wM.frozen? ⟨wA.heap.size, 1, none⟩ = false := ((bcell hbM).2 _ _ (by simp)).trans (by simp [go_sem]); have q2 : wM.cell? ⟨wA.heap.size, 2, none⟩ = some (.int .i64 0) := bkeep (w1 := (wA.drew.alloc (.cells #[.string ⟨#[]⟩, .int .i64 0, .int .i64 0, .int .i64 0, .string ⟨#[]⟩, .int .i64 0, .string ⟨#[]⟩, .int .i64 0, .string ⟨#[]⟩] 117))) (by simp [go_sem]) hbM; have f2 : wM.frozen? ⟨wA.heap.size, 2, none⟩ = false := ((bcell hbM).2 _ _ (by simp)).trans (by simp [go_sem]); have q3 : wM.cell? ⟨wA.heap.size, 3, none⟩ = some (.int .i64 0) := bkeep (w1 := (wA.drew.alloc (.cells #[.string ⟨#[]⟩, .int .i64 0, .int .i64 0, .int .i64 0, .string ⟨#[]⟩, .int .i64 0, .string ⟨#[]⟩, .int .i64 0, .string ⟨#[]⟩] 117))) (by simp [go_sem]) hbM; have f3 : wM.frozen? ⟨wA.heap.size, 3, none⟩ = false := ((bcell hbM).2 _ _ (by simp)).trans (by simp [go_sem]); have q4 : wM.cell? ⟨wA.heap.size, 4, none⟩ = some (.string ⟨#[]⟩) := bkeep (w1 := (wA.drew.alloc (.cells #[.string ⟨#[]⟩, .int .i64 0, .int .i64 0, .int .i64 0, .string ⟨#[]⟩, .int .i64 0, .string ⟨#[]⟩, .int .i64 0, .string ⟨#[]⟩] 117))) (by simp [go_sem]) hbM; have f4 : wM.frozen? ⟨wA.heap.size, 4, none⟩ = false := ((bcell hbM).2 _ _ (by simp)).trans (by simp [go_sem]); have q5 : wM.cell? ⟨wA.heap.size, 5, none⟩ = some (.int .i64 0) := bkeep (w1 := (wA.drew.alloc (.cells #[.string ⟨#[]⟩, .int .i64 0, .int .i64 0, .int .i64 0, .string ⟨#[]⟩, .int .i64 0, .string ⟨#[]⟩, .int .i64 0, .string ⟨#[]⟩] 117))) (by simp [go_sem]) hbM; have f5 : wM.frozen? ⟨wA.heap.size, 5, none⟩ = false := ((bcell hbM).2 _ _ (by simp)).trans (by simp [go_sem]); have q6 : wM.cell? ⟨wA.heap.size, 6, none⟩ = some (.string ⟨#[]⟩) := bkeep (w1 := (wA.drew.alloc (.cells #[.string ⟨#[]⟩, .int .i64 0, .int .i64 0, .int .i64 0, .string ⟨#[]⟩, .int .i64 0, .string ⟨#[]⟩, .int .i64 0, .string ⟨#[]⟩] 117))) (by simp [go_sem]) hbM; have f6 : wM.frozen? ⟨wA.heap.size, 6, none⟩ = false := ((bcell hbM).2 _ _ (by simp)).trans (by simp [go_sem]); have q7 : wM.cell? ⟨wA.heap.size, 7, none⟩ = some (.int .i64 0) := bkeep (w1 := (wA.drew.alloc (.cells #[.string ⟨#[]⟩, .int .i64 0, .int .i64 0, .int .i64 0, .string ⟨#[]⟩, .int .i64 0, .string ⟨#[]⟩, .int .i64 0, .string ⟨#[]⟩] 117))) (by simp [go_sem]) hbM; have f7 : wM.frozen? ⟨wA.heap.size, 7, none⟩ = false := ((bcell hbM).2 _ _ (by simp)).trans (by simp [go_sem]); have q8 : wM.cell? ⟨wA.heap.size, 8, none⟩ = some (.string ⟨#[]⟩) := bkeep (w1 := (wA.drew.alloc (.cells #[.string ⟨#[]⟩, .int .i64 0, .int .i64 0, .int .i64 0, .string ⟨#[]⟩, .int .i64 0, .string ⟨#[]⟩, .int .i64 0, .string ⟨#[]⟩] 117))) (by simp [go_sem]) hbM; have f8 : wM.frozen? ⟨wA.heap.size, 8, none⟩ = false := ((bcell hbM).2 _ _ (by simp)).trans (by simp [go_sem])) | (go_at_call 93; refine (hY _ (by assumption) _).mono ?_; rintro e wq ⟨y, rfl, _, _, hwq⟩; have hwq := hwq.symm; subst hwq))
   all_goals
    go_wp2
    go_meet
    first
     | (clear nbA; exact ⟨_, ⟨s1, _, _, m, s6, 0, ⟨#[]⟩, 0, s9⟩, rfl, ruleStA bA HsA.out HrA.out HfA.out hbM, z1, z6, (show (⟨#[]⟩ : ByteArray).size ≤ 8000 by decide), z9⟩)
     | (clear nbB; exact ⟨_, ⟨s1, _, _, m, s6, 0, ⟨#[]⟩, 0, s9⟩, rfl, ruleStC bA HsA.out HrA.out HfA.out hbM, z1, z6, (show (⟨#[]⟩ : ByteArray).size ≤ 8000 by decide), z9⟩)
  case rest =>
   obtain ⟨q, R, rfl, hR, hR8⟩ := hcut
   obtain ⟨w1, hw1⟩ : ∃ x : World, x = wc := ⟨_, rfl⟩
   subst hw1
   clear a1 a2 a3 a5 a6 a9 HsA HrA HfA bA hY hMo
   have c31 := bkeep c3 hR.bel
   go_step
   go_step
   go_cut [] from 42 to 52 (fun wx => RuleAny w wx q w.heap.size)
   case first =>
    obtain ⟨n0, l0, h0, m0, o0, a0, f0, v0, e0⟩ := R
    have x1 := hR.c 1 _ rfl
    have x2 := hR.c 2 _ rfl
    have y2 := hR.f 2
    have HA0 : Hid (RuleAny w w1 q w.heap.size) := ⟨⟨_, hR, hR8⟩⟩
    have HA1 : Hid (RuleAny w (w1.setCell ⟨q, 2, none⟩ (.int .i64 l0)) q w.heap.size) := ⟨⟨⟨n0, l0, l0, m0, o0, a0, f0, v0, e0⟩, hR.set (x := .int .i64 h0) rfl rfl, hR8⟩⟩
    have HA2 : Hid (RuleAny w (w1.setCell ⟨q, 2, none⟩ (.int .i64 9999)) q w.heap.size) := ⟨⟨⟨n0, l0, 9999, m0, o0, a0, f0, v0, e0⟩, hR.set (x := .int .i64 h0) rfl rfl, hR8⟩⟩
    clear hR
    cases hq1 : (s3.toList == [111, 110, 108, 121]) with
    | true =>
     go_wp2
     go_meet
     exact HA1.out
    | false =>
     cases hq2 : (s3.toList == [109, 97, 120]) with
     | true =>
      go_wp2
      go_meet
      exact HA2.out
     | false =>
      go_wp2
      go_meet
      exact HA0.out
   case rest =>
    clear hR hR8 c31
    obtain ⟨⟨n0, l0, h0, m0, o0, a0, f0, v0, e0⟩, hR, hR8⟩ := hcut.ex
    obtain ⟨w2, hw2⟩ : ∃ x : World, x = wc := ⟨_, rfl⟩
    subst hw2
    clear hcut
    go_step
    go_step
    go_cut [] from 53 to 56 (fun wx => RuleAny w wx q w.heap.size)
    case first =>
     have x8 := hR.c 8 _ rfl
     have y8 := hR.f 8
     have HA0 : Hid (RuleAny w w2 q w.heap.size) := ⟨⟨_, hR, hR8⟩⟩
     have HA1 : Hid (RuleAny w (w2.setCell ⟨q, 8, none⟩ (.string ⟨#[]⟩)) q w.heap.size) := ⟨⟨⟨n0, l0, h0, m0, o0, a0, f0, v0, ⟨#[]⟩⟩, hR.set (x := .string e0) rfl rfl, hR8.1, hR8.2.1, hR8.2.2.1, (show (⟨#[]⟩ : ByteArray).size ≤ 8000 by decide)⟩⟩
     clear hR
     cases hq1 : (e0.toList == [45]) with
     | true =>
      go_wp2
      go_meet
      exact HA1.out
     | false =>
      go_wp2
      go_meet
      exact HA0.out
    case rest =>
     clear hR hR8 n0 l0 h0 m0 o0 a0 f0 v0 e0
     obtain ⟨⟨n0, l0, h0, m0, o0, a0, f0, v0, e0⟩, hR, hR8⟩ := hcut.ex
     obtain ⟨w3, hw3⟩ : ∃ x : World, x = wc := ⟨_, rfl⟩
     subst hw3
     clear hcut
     have c73 := bkeep c7 hR.bel
     go_wp2_with fail
     refine (rd_Time s7 _ z7).mono ?_
     rintro e w4 hP
     obtain ⟨nt, ft, bb, rfl, zf, hb4⟩ := hP.ex
     have hR4 := hR.call hb4
     have c84 := bkeep c8 hR4.bel
     clear hR hb4 hP c73
     go_wp2_with fail
     refine (spec_l01Offset s8 _ z8).mono ?_
     rintro e w5 ⟨⟨sv, rfl, hq1⟩, hb5⟩
     have hR5 := hR4.call hb5
     clear hq1 hR4 hb5 c84
     generalize okO s8 = k8 at *
     have x5 := hR5.c 5 _ rfl
     have y5 := hR5.f 5
     go_upto_region 14 with fail
     have hR6 : RuleSt w (w5.setCell ⟨q, 5, none⟩ (.int .i64 nt)) q w.heap.size ⟨n0, l0, h0, m0, o0, nt, f0, v0, e0⟩ := hR5.set (x := .int .i64 a0) rfl rfl
     generalize w5.setCell ⟨q, 5, none⟩ (.int .i64 nt) = w6 at *
     clear x5 y5 hR5
     have x6 := hR6.c 6 _ rfl
     have y6 := hR6.f 6
     go_upto_region 15 with fail
     have hR7 : RuleSt w (w6.setCell ⟨q, 6, none⟩ (.string ft)) q w.heap.size ⟨n0, l0, h0, m0, o0, nt, ft, v0, e0⟩ := hR6.set (x := .string f0) rfl rfl
     generalize w6.setCell ⟨q, 6, none⟩ (.string ft) = w7 at *
     clear x6 y6 hR6
     have x7 := hR7.c 7 _ rfl
     have y7 := hR7.f 7
     go_upto_region 16 with fail
     have hR9 : RuleSt w (w7.setCell ⟨q, 7, none⟩ (.int .i64 sv)) q w.heap.size ⟨n0, l0, h0, m0, o0, nt, ft, sv, e0⟩ := hR7.set (x := .int .i64 v0) rfl rfl
     generalize w7.setCell ⟨q, 7, none⟩ (.int .i64 sv) = w9 at *
     clear x7 y7 hR7
     have h89 : R8 ⟨n0, l0, h0, m0, o0, nt, ft, sv, e0⟩ := ⟨hR8.1, hR8.2.1, zf, hR8.2.2.2⟩
     have HS : Hid (RuleSt w w9 q w.heap.size ⟨n0, l0, h0, m0, o0, nt, ft, sv, e0⟩) := hR9
     have hRu := fun w => spec_l02Rule ⟨n0, l0, h0, m0, o0, nt, ft, sv, e0⟩ w h89.ok (by have := h89.2.1; omega)
     generalize ruleB ⟨n0, l0, h0, m0, o0, nt, ft, sv, e0⟩ = rb at *
     unfold RuleD.v at hRu
     have k0_ := hR9.c 0 _ rfl
     have k1_ := hR9.c 1 _ rfl
     have k2_ := hR9.c 2 _ rfl
     have k3_ := hR9.c 3 _ rfl
     have k4_ := hR9.c 4 _ rfl
     have k5_ := hR9.c 5 _ rfl
     have k6_ := hR9.c 6 _ rfl
     have k7_ := hR9.c 7 _ rfl
     have k8_ := hR9.c 8 _ rfl
     obtain ⟨x0, d0⟩ := hR9.d 0 (by omega)
     obtain ⟨x1, d1⟩ := hR9.d 1 (by omega)
     obtain ⟨x2, d2⟩ := hR9.d 2 (by omega)
     obtain ⟨x3, d3⟩ := hR9.d 3 (by omega)
     obtain ⟨x4, d4⟩ := hR9.d 4 (by omega)
     obtain ⟨x5, d5⟩ := hR9.d 5 (by omega)
     obtain ⟨x6, d6⟩ := hR9.d 6 (by omega)
     obtain ⟨x7, d7⟩ := hR9.d 7 (by omega)
     obtain ⟨x8, d8⟩ := hR9.d 8 (by omega)
     have g0 := hR9.g 0
     have g1 := hR9.g 1
     have g2 := hR9.g 2
     have g3 := hR9.g 3
     have g4 := hR9.g 4
     have g5 := hR9.g 5
     have g6 := hR9.g 6
     have g7 := hR9.g 7
     have g8 := hR9.g 8
     clear hR9
     cases bb with
     | false =>
      go_region
      obtain ⟨wz, hwz⟩ : ∃ x : World, (((((((((w9.setCell ⟨w.heap.size, 0, none⟩ (.string n0)).setCell ⟨w.heap.size, 1, none⟩ (.int .i64 l0)).setCell ⟨w.heap.size, 2, none⟩ (.int .i64 h0)).setCell ⟨w.heap.size, 3, none⟩ (.int .i64 m0)).setCell ⟨w.heap.size, 4, none⟩ (.string o0)).setCell ⟨w.heap.size, 5, none⟩ (.int .i64 nt)).setCell ⟨w.heap.size, 6, none⟩ (.string ft)).setCell ⟨w.heap.size, 7, none⟩ (.int .i64 sv)).setCell ⟨w.heap.size, 8, none⟩ (.string e0)) = x := ⟨_, rfl⟩
      have ht := lay9_at (W := w9) (r := w.heap.size) ⟨n0, l0, h0, m0, o0, nt, ft, sv, e0⟩ (HS.out.d)
      have hbl : Below w.heap.size w wz := by rw [← hwz]; exact lay9_bel (W := w9) ⟨n0, l0, h0, m0, o0, nt, ft, sv, e0⟩ (HS.out.bel) (Nat.le_refl _)
      have hl : lay9 w9 w.heap.size ⟨n0, l0, h0, m0, o0, nt, ft, sv, e0⟩ = wz := hwz
      rw [hl] at ht
      obtain ⟨t0, t1, t2, t3, t4, t5, t6, t7, t8⟩ := ht
      rw [hwz]
      clear hwz hl
      go_wp2
      exact bodyPost_ret (v := .tuple #[RuleD.v ⟨n0, l0, h0, m0, o0, nt, ft, sv, e0⟩, .bool false]) (by simp [results, Tryz.results74, go_sem, RuleD.v, t0, t1, t2, t3, t4, t5, t6, t7, t8]) rfl ⟨⟨_, _, rfl, h89, below_drewN hbl _⟩⟩
     | true =>
      cases k8 with
      | false =>
       go_region
       obtain ⟨wz, hwz⟩ : ∃ x : World, (((((((((w9.setCell ⟨w.heap.size, 0, none⟩ (.string n0)).setCell ⟨w.heap.size, 1, none⟩ (.int .i64 l0)).setCell ⟨w.heap.size, 2, none⟩ (.int .i64 h0)).setCell ⟨w.heap.size, 3, none⟩ (.int .i64 m0)).setCell ⟨w.heap.size, 4, none⟩ (.string o0)).setCell ⟨w.heap.size, 5, none⟩ (.int .i64 nt)).setCell ⟨w.heap.size, 6, none⟩ (.string ft)).setCell ⟨w.heap.size, 7, none⟩ (.int .i64 sv)).setCell ⟨w.heap.size, 8, none⟩ (.string e0)) = x := ⟨_, rfl⟩
       have ht := lay9_at (W := w9) (r := w.heap.size) ⟨n0, l0, h0, m0, o0, nt, ft, sv, e0⟩ (HS.out.d)
       have hbl : Below w.heap.size w wz := by rw [← hwz]; exact lay9_bel (W := w9) ⟨n0, l0, h0, m0, o0, nt, ft, sv, e0⟩ (HS.out.bel) (Nat.le_refl _)
       have hl : lay9 w9 w.heap.size ⟨n0, l0, h0, m0, o0, nt, ft, sv, e0⟩ = wz := hwz
       rw [hl] at ht
       obtain ⟨t0, t1, t2, t3, t4, t5, t6, t7, t8⟩ := ht
       rw [hwz]
       clear hwz hl
       go_wp2
       exact bodyPost_ret (v := .tuple #[RuleD.v ⟨n0, l0, h0, m0, o0, nt, ft, sv, e0⟩, .bool false]) (by simp [results, Tryz.results74, go_sem, RuleD.v, t0, t1, t2, t3, t4, t5, t6, t7, t8]) rfl ⟨⟨_, _, rfl, h89, below_drewN hbl _⟩⟩
      | true =>
       have hne : w.heap.size ≠ q := HS.out.ne.symm
       go_region_held3 (fun w' => w'.cell? ⟨q, 0, none⟩ = some (.string n0) ∧ w'.cell? ⟨q, 1, none⟩ = some (.int .i64 l0) ∧ w'.cell? ⟨q, 2, none⟩ = some (.int .i64 h0) ∧ w'.cell? ⟨q, 3, none⟩ = some (.int .i64 m0) ∧ w'.cell? ⟨q, 4, none⟩ = some (.string o0) ∧ w'.cell? ⟨q, 5, none⟩ = some (.int .i64 nt) ∧ w'.cell? ⟨q, 6, none⟩ = some (.string ft) ∧ w'.cell? ⟨q, 7, none⟩ = some (.int .i64 sv) ∧ w'.cell? ⟨q, 8, none⟩ = some (.string e0)) (go_keep) ((go_at_call 67; refine (hRu _).mono ?_; rintro e wq ⟨rfl, hbq⟩; have p0 := bkeep (w1 := w9.drew) k0_ hbq; have r0 := bkeep (w1 := w9.drew) d0 hbq; have z0_ : wq.frozen? ⟨w.heap.size, 0, none⟩ = false := ((bcell hbq).2 _ _ (World.block_lt_of_cell? w9.drew _ d0)).trans g0; have p1 := bkeep (w1 := w9.drew) k1_ hbq; have r1 := bkeep (w1 := w9.drew) d1 hbq; have z1_ : wq.frozen? ⟨w.heap.size, 1, none⟩ = false := ((bcell hbq).2 _ _ (World.block_lt_of_cell? w9.drew _ d0)).trans g1; have p2 := bkeep (w1 := w9.drew) k2_ hbq; have r2 := bkeep (w1 := w9.drew) d2 hbq; have z2_ : wq.frozen? ⟨w.heap.size, 2, none⟩ = false := ((bcell hbq).2 _ _ (World.block_lt_of_cell? w9.drew _ d0)).trans g2; have p3 := bkeep (w1 := w9.drew) k3_ hbq; have r3 := bkeep (w1 := w9.drew) d3 hbq; have z3_ : wq.frozen? ⟨w.heap.size, 3, none⟩ = false := ((bcell hbq).2 _ _ (World.block_lt_of_cell? w9.drew _ d0)).trans g3; have p4 := bkeep (w1 := w9.drew) k4_ hbq; have r4 := bkeep (w1 := w9.drew) d4 hbq; have z4_ : wq.frozen? ⟨w.heap.size, 4, none⟩ = false := ((bcell hbq).2 _ _ (World.block_lt_of_cell? w9.drew _ d0)).trans g4; have p5 := bkeep (w1 := w9.drew) k5_ hbq; have r5 := bkeep (w1 := w9.drew) d5 hbq; have z5_ : wq.frozen? ⟨w.heap.size, 5, none⟩ = false := ((bcell hbq).2 _ _ (World.block_lt_of_cell? w9.drew _ d0)).trans g5; have p6 := bkeep (w1 := w9.drew) k6_ hbq; have r6 := bkeep (w1 := w9.drew) d6 hbq; have z6_ : wq.frozen? ⟨w.heap.size, 6, none⟩ = false := ((bcell hbq).2 _ _ (World.block_lt_of_cell? w9.drew _ d0)).trans g6; have p7 := bkeep (w1 := w9.drew) k7_ hbq; have r7 := bkeep (w1 := w9.drew) d7 hbq; have z7_ : wq.frozen? ⟨w.heap.size, 7, none⟩ = false := ((bcell hbq).2 _ _ (World.block_lt_of_cell? w9.drew _ d0)).trans g7; have p8 := bkeep (w1 := w9.drew) k8_ hbq; have r8 := bkeep (w1 := w9.drew) d8 hbq; have z8_ : wq.frozen? ⟨w.heap.size, 8, none⟩ = false := ((bcell hbq).2 _ _ (World.block_lt_of_cell? w9.drew _ d0)).trans g8))
       all_goals
        have hsq : Below w9.heap.size w9 wq := ⟨hbq.1, hbq.2, hbq.3, hbq.4, hbq.5⟩
        obtain ⟨wz, hwz⟩ : ∃ x : World, (((((((((wq.setCell ⟨w.heap.size, 0, none⟩ (.string n0)).setCell ⟨w.heap.size, 1, none⟩ (.int .i64 l0)).setCell ⟨w.heap.size, 2, none⟩ (.int .i64 h0)).setCell ⟨w.heap.size, 3, none⟩ (.int .i64 m0)).setCell ⟨w.heap.size, 4, none⟩ (.string o0)).setCell ⟨w.heap.size, 5, none⟩ (.int .i64 nt)).setCell ⟨w.heap.size, 6, none⟩ (.string ft)).setCell ⟨w.heap.size, 7, none⟩ (.int .i64 sv)).setCell ⟨w.heap.size, 8, none⟩ (.string e0)) = x := ⟨_, rfl⟩
        have ht := lay9_at (W := wq) (r := w.heap.size) ⟨n0, l0, h0, m0, o0, nt, ft, sv, e0⟩ (fun j hj => by obtain ⟨x, hx⟩ := HS.out.d j hj; exact ⟨x, bkeep hx hsq⟩)
        have hbl : Below w.heap.size w wz := by rw [← hwz]; exact lay9_bel (W := wq) ⟨n0, l0, h0, m0, o0, nt, ft, sv, e0⟩ (below3 HS.out.bel hsq) (Nat.le_refl _)
        have hl : lay9 wq w.heap.size ⟨n0, l0, h0, m0, o0, nt, ft, sv, e0⟩ = wz := hwz
        rw [hl] at ht
        obtain ⟨t0, t1, t2, t3, t4, t5, t6, t7, t8⟩ := ht
        rw [hwz]
        clear hwz hl
        go_wp2
        exact bodyPost_ret (v := .tuple #[RuleD.v ⟨n0, l0, h0, m0, o0, nt, ft, sv, e0⟩, .bool rb]) (by simp [results, Tryz.results74, go_sem, RuleD.v, t0, t1, t2, t3, t4, t5, t6, t7, t8]) rfl ⟨⟨_, _, rfl, h89, hbl⟩⟩
theorem rd_ReadRule (b o n cap : Nat) (w : World) (hW : WrdAt w b o n) :
  Calls Tryz.prog 74 #[.slice (some ⟨b, o, none⟩) n cap] w fun e w' => RuleP w e w' := by
 by_cases h : n = 10
 ·
  subst h; exact rd_Rule10 b o cap w hW
 ·
  exact rd_Rule0 b o n cap w h
end Go.Proofs.YtcelbkmnbjcjhaaGreat
