/- The model's reader at a line: a zone. -/
import Derived.Test.YtcelbkmnbjcjhaaGreatRdHd
import Derived.Test.YtcelbkmnbjcjhaaGreatRelAd
import Derived.Deep.Cut
namespace Go.Proofs.YtcelbkmnbjcjhaaGreat
open Go.RowKit Go.Sort

set_option maxHeartbeats 2000000 in
theorem rd_lineZone0 (B p K b cap : Nat) (rv zv lv : Value) (R : RelD) (evs : List Value) (w : World) (h : RdV w B p rv zv lv false R evs K) (s0 : ByteArray) (c0 : w.cell? ⟨b, 0, none⟩ = some (.string s0)) (h0 : (s0.toList == [82, 117, 108, 101]) = false) (h1 : (s0.toList == [90, 111, 110, 101]) = true) :
  Calls Tryz.prog 63 #[.pointer (some ⟨p, 0, none⟩), .slice (some ⟨b, 0, none⟩) 1 cap] w fun e w' => LineP B p K w e w' := by
 have c3 := h.c3
 have HP : Hid (LineP B p K w (.returned (.bool false)) w) := ⟨⟨_, _, _, _, _, _, _, rfl, h.more, Below.refl _ _⟩⟩
 clear h
 go_enter Tryz.func63, Tryz.ntmps63
 go_wp2
 go_ret
 exact HP.out
set_option maxRecDepth 20000 in
set_option maxHeartbeats 8000000 in
theorem rd_lineZoneA (B p K b n cap : Nat) (rv zv lv : Value) (R : RelD) (evs : List Value) (w : World) (h : RdV w B p rv zv lv false R evs K) (hB : B ≤ w.heap.size) (hK : K ≤ 8001) (tb : ∃ cs, w.heap[b]? = some (.cells cs 9 (0, 0))) (hn : 2 ≤ n) (hn2 : n ≤ 8001) (hcap : n ≤ cap) (hc : ¬ cap = 2) (hW : WrdAt w b 0 n) (s0 s1 : ByteArray) (c0 : w.cell? ⟨b, 0, none⟩ = some (.string s0)) (c1 : w.cell? ⟨b, 1, none⟩ = some (.string s1)) (z1 : s1.size ≤ 8000) (h0 : (s0.toList == [82, 117, 108, 101]) = false) (h1 : (s0.toList == [90, 111, 110, 101]) = true) :
  Calls Tryz.prog 63 #[.pointer (some ⟨p, 0, none⟩), .slice (some ⟨b, 0, none⟩) n cap] w fun e w' => LineP B p K w e w' := by
 obtain ⟨i0, hi, hz0, hz1, hz2⟩ := infoZone
 have c3 := h.c3
 have hg2 : ¬ (n : Int) < 2 := by omega
 have hg1 : (1 : Int) < (n : Int) := by omega
 have hW2 : WrdAt w b 2 (n - 2) := ⟨fun k hk => by
  obtain ⟨s, h1, h2⟩ := hW.ex (2 + k) (by omega)
  exact ⟨s, by rw [Nat.zero_add] at h1; exact h1, h2⟩⟩
 have hN1 := fun w => spec_NameRight s1 w (by unfold maxLen; omega)
 go_enter Tryz.func63, Tryz.ntmps63
 go_wp2_with fail
 refine (rd_ReadEra b 2 (n - 2) (cap - 2) _ (by omega) (by omega) hW2).mono ?_
 rintro e w1 hP
 obtain ⟨⟨e0, e1, e2, e3, e4, e5⟩, m2, kx, rfl, hX8, hb1⟩ := hP.ex
 unfold EraD.v
 have h1 := h.below hb1
 have c11 := bkeep c1 hb1
 have tb1 : ∃ cs, w1.heap[b]? = some (.cells cs 9 (0, 0)) := by
  obtain ⟨cs, hc⟩ := tb
  exact ⟨cs, (hb1.block b (World.block_lt_of_cell? _ _ c1)).trans hc⟩
 clear hP c3 c0 hW2 hW
 go_upto_region 16 with fail
 obtain ⟨wv, hwv⟩ : ∃ x : World, (w1.alloc (.cells #[.int .i64 e0, .string e1, .int .i64 e2, .string e3, .int .i64 e4, .string e5] 130)) = x := ⟨_, rfl⟩
 have hbv : Below w1.heap.size w1 wv := by rw [← hwv]; exact (Below.refl _ _).alloc (Nat.le_refl _) _
 have k0 : wv.cell? ⟨w1.heap.size, 0, none⟩ = some (.int .i64 e0) := by rw [← hwv]; simp [go_sem]
 have k1 : wv.cell? ⟨w1.heap.size, 1, none⟩ = some (.string e1) := by rw [← hwv]; simp [go_sem]
 have k2 : wv.cell? ⟨w1.heap.size, 2, none⟩ = some (.int .i64 e2) := by rw [← hwv]; simp [go_sem]
 have k3 : wv.cell? ⟨w1.heap.size, 3, none⟩ = some (.string e3) := by rw [← hwv]; simp [go_sem]
 have k4 : wv.cell? ⟨w1.heap.size, 4, none⟩ = some (.int .i64 e4) := by rw [← hwv]; simp [go_sem]
 have k5 : wv.cell? ⟨w1.heap.size, 5, none⟩ = some (.string e5) := by rw [← hwv]; simp [go_sem]
 have h2 := h1.below hbv
 have c1v := bkeep c11 hbv
 have tbv : ∃ cs, wv.heap[b]? = some (.cells cs 9 (0, 0)) := by
  obtain ⟨cs, hc⟩ := tb1
  exact ⟨cs, (hbv.block b (World.block_lt_of_cell? _ _ c11)).trans hc⟩
 have hBv : B ≤ wv.heap.size := Nat.le_trans hB (Nat.le_trans hb1.size hbv.size)
 have hbw : Below B w wv := (hb1.mono hB).trans (hbv.mono (Nat.le_trans hB hb1.size))
 rw [hwv]
 clear hwv
 obtain ⟨ra, rc, hrv⟩ := own_shape h2.zz
 subst hrv
 obtain ⟨N, hN⟩ : ∃ N, R.zones.length = N := ⟨_, rfl⟩
 have hRR : wv.ownsRow B 121 2 (.slice ra N rc) N (zrows R.zones evs).flatten := by have := h2.zz; rw [hN] at this; exact this
 have hN8 : N ≤ 8001 := by have := h2.sz.2.1; omega
 have q0 : wv.cell? ⟨p, 1, none⟩ = some (.slice ra N rc) := by have := h2.c1; rw [hN] at this; exact this
 have qf : wv.frozen? ⟨p, 1, none⟩ = false := fz_of h2.tp 1
 have hne : some p ≠ (Value.slice ra N rc).ownBlock := sepT hRR h2.tp tne3
 have hbp : p ≠ b := tp_ne h2.tp tbv (by decide)
 have hbs : some b ≠ (Value.slice ra N rc).ownBlock := sepT hRR tbv (by decide)
 have HD : Hid (RdV wv B p rv (.slice ra N rc) lv false R evs K) := by have := h2; rw [hN] at this; exact this
 have HN : Hid (R.zones.length = N) := hN
 have ba : ∀ o o2, Below wv.heap.size wv ((wv.alloc o).alloc o2).drew := fun o o2 => ⟨rfl, rfl, rfl, (((Below.refl wv.heap.size wv).alloc (Nat.le_refl _) o).alloc (by simp) o2).size, (((Below.refl wv.heap.size wv).alloc (Nat.le_refl _) o).alloc (by simp) o2).block⟩
 have hR2 : ∀ o o2, ((wv.alloc o).alloc o2).drew.ownsRow B 121 2 (.slice ra N rc) N (zrows R.zones evs).flatten := fun o o2 => World.ownsRow.drew (World.ownsRow.alloc (World.ownsRow.alloc hRR o) o2)
 have hC2 : ∀ j u, [Value.string s1, .slice (some ⟨wv.heap.size, 0, none⟩) 1 1][j]? = some u → (((wv.alloc (.cells #[.int .i64 e0, .string e1, .int .i64 e2, .string e3, .int .i64 e4, .string e5] 130)).alloc (.cells #[.string s1, .slice (some ⟨wv.heap.size, 0, none⟩) 1 1] 121)).drew).cell? ((⟨wv.heap.size + 1, 0, none⟩ : Addr).add j) = some u := fun j u hj => by
  have := cells_new (wv.alloc (.cells #[.int .i64 e0, .string e1, .int .i64 e2, .string e3, .int .i64 e4, .string e5] 130)) [.string s1, .slice (some ⟨wv.heap.size, 0, none⟩) 1 1] 121 j u hj
  rw [show (wv.alloc (.cells #[.int .i64 e0, .string e1, .int .i64 e2, .string e3, .int .i64 e4, .string e5] 130)).heap.size = wv.heap.size + 1 by simp] at this
  exact this
 have hBa : ∀ o o2, B ≤ ((wv.alloc o).alloc o2).drew.heap.size := fun o o2 => Nat.le_trans hBv (ba o o2).size
 have hplt : p < wv.heap.size := World.block_lt_of_cell? _ _ q0
 have HE : Hid (∀ o2, (((wv.alloc (.cells #[.int .i64 e0, .string e1, .int .i64 e2, .string e3, .int .i64 e4, .string e5] 130)).alloc o2).drew).ownsRow B 130 6 (.slice (some ⟨wv.heap.size, 0, none⟩) 1 1) 1 [.int .i64 e0, .string e1, .int .i64 e2, .string e3, .int .i64 e4, .string e5]) := fun o2 => World.ownsRow.drew (World.ownsRow.alloc (World.ownsRow_lit wv #[.int .i64 e0, .string e1, .int .i64 e2, .string e3, .int .i64 e4, .string e5] 1 hBv (by unfold maxLen; omega) rfl) o2)
 have HF : Hid (∀ (i : Nat) ev, evs[i]? = some ev → ev.ownBlock ≠ some wv.heap.size) := fun i ev hev hg => by
  have hl := (List.getElem?_eq_some_iff.mp hev).1
  rw [HD.out.el] at hl
  have := World.ownsRow.lt (HD.out.ee i _ ev (List.getElem?_eq_getElem hl) hev).1 _ hg
  omega
 clear h2 h1 h hb1 hbv hN tb tb1 tbv c11 c1
 have c1a : (wv.alloc (.cells #[.int .i64 e0, .string e1, .int .i64 e2, .string e3, .int .i64 e4, .string e5] 130)).cell? ⟨b, 1, none⟩ = some (.string s1) := bkeep (w1 := wv) c1v ((Below.refl _ _).alloc (Nat.le_refl _) _)
 have q0a : (wv.alloc (.cells #[.int .i64 e0, .string e1, .int .i64 e2, .string e3, .int .i64 e4, .string e5] 130)).cell? ⟨p, 1, none⟩ = some (.slice ra N rc) := bkeep (w1 := wv) q0 ((Below.refl _ _).alloc (Nat.le_refl _) _)
 have q0b : ((wv.alloc (.cells #[.int .i64 e0, .string e1, .int .i64 e2, .string e3, .int .i64 e4, .string e5] 130)).alloc (.cells #[.string s1, .slice (some ⟨wv.heap.size, 0, none⟩) 1 1] 121)).cell? ⟨p, 1, none⟩ = some (.slice ra N rc) := bkeep (w1 := wv) q0 (((Below.refl _ _).alloc (Nat.le_refl _) _).alloc (by simp) _)
 go_region_law (refine step_append_lies _ (by rfl) (.tmp 96) (.tmp 103) 87 (by rfl) B 121 i0 (.agg #[.string ⟨#[]⟩, .slice none 0 0]) 2 40 Tryz.underlying87 hi hz0 hz1 hz2 rfl (by omega) (.slice ra N rc) N (zrows R.zones evs).flatten (by rfl) (hR2 _ _) ⟨wv.heap.size + 1, 0, none⟩ 1 1 [.string s1, .slice (some ⟨wv.heap.size, 0, none⟩) 1 1] (by rfl) rfl hC2 (by intro u hu; simp at hu; rcases hu with rfl | rfl <;> rfl) (by omega) (by unfold maxLen; omega) (by omega) (hBa _ _) _ rfl ?_; intro g1 cap1 w2 hown1 hgrow hat hlt1; have r1 := hgrow.cell (a := ⟨p, 1, none⟩) (bkeep (w1 := wv) q0 (ba _ _)) hne; have r2 := (hgrow.frozen_far ⟨p, 1, none⟩ (Nat.lt_of_lt_of_le hplt (ba _ _).size) hne).trans (((bcell (ba _ _)).2 _ _ hplt).trans qf))
 all_goals
  have h3 := (HD.out.below (ba (.cells #[.int .i64 e0, .string e1, .int .i64 e2, .string e3, .int .i64 e4, .string e5] 130) (.cells #[.string s1, .slice (some ⟨wv.heap.size, 0, none⟩) 1 1] 121))).addZone (m2 := m2) (nm := s1) (E := ⟨e0, e1, e2, e3, e4, e5⟩) (HE.out (.cells #[.string s1, .slice (some ⟨wv.heap.size, 0, none⟩) 1 1] 121)) HF.out hgrow (by rw [HN.out]; exact hown1) z1 hX8
  have hb2 := (bel_grown (hbw.trans ((ba (.cells #[.int .i64 e0, .string e1, .int .i64 e2, .string e3, .int .i64 e4, .string e5] 130) (.cells #[.string s1, .slice (some ⟨wv.heap.size, 0, none⟩) 1 1] 121)).mono hBv)) hgrow (hR2 _ _) (Nat.le_refl _) (hBa _ _)).setCell (p := ⟨p, 1, none⟩) HD.out.hp (.slice (some ⟨g1, 0, none⟩) (N + 1) cap1)
  have hb3 := hb2.setCell (p := ⟨p, 3, none⟩) HD.out.hp (.bool m2)
  obtain ⟨d0, d1, d2, d3, dt⟩ := (HD.out.below (ba (.cells #[.int .i64 e0, .string e1, .int .i64 e2, .string e3, .int .i64 e4, .string e5] 130) (.cells #[.string s1, .slice (some ⟨wv.heap.size, 0, none⟩) 1 1] 121))).cells hgrow hne
  have x3 : (w2.setCell ⟨p, 1, none⟩ (.slice (some ⟨g1, 0, none⟩) (N + 1) cap1)).cell? ⟨p, 3, none⟩ = some (.bool false) := by rw [World.cell?_setCell_other _ _ _ _ (by simp)]; exact d3
  have f3 : (w2.setCell ⟨p, 1, none⟩ (.slice (some ⟨g1, 0, none⟩) (N + 1) cap1)).frozen? ⟨p, 3, none⟩ = false := by rw [World.frozen?_setCell]; exact fz_of dt 3
  have e1' : ((w2.setCell ⟨p, 1, none⟩ (.slice (some ⟨g1, 0, none⟩) (N + 1) cap1)).setCell ⟨p, 3, none⟩ (.bool m2)).cell? ⟨b, 1, none⟩ = some (.string s1) := by rw [World.cell?_setCell_other _ _ _ _ (by simp <;> omega), World.cell?_setCell_other _ _ _ _ (by simp <;> omega)]; exact hgrow.cell (a := ⟨b, 1, none⟩) (bkeep (w1 := wv) c1v (ba _ _)) hbs
  have HP : Hid (∀ k, LineP B p K w (.returned (.bool k)) ((w2.setCell ⟨p, 1, none⟩ (.slice (some ⟨g1, 0, none⟩) (N + 1) cap1)).setCell ⟨p, 3, none⟩ (.bool m2))) := fun k => ⟨⟨k, _, _, _, _, _, _, rfl, h3, hb3⟩⟩
  clear h3 hb2 hb3 hgrow hat hlt1 r1 r2 hown1 d0 d1 d2 d3 dt
  generalize w2.setCell ⟨p, 1, none⟩ (.slice (some ⟨g1, 0, none⟩) (N + 1) cap1) = w3 at *
  go_upto_region 18 with fail
  generalize w3.setCell ⟨p, 3, none⟩ (.bool m2) = w4 at *
  cases kx with
  | false =>
   go_wp2
   go_ret
   exact HP.out _
  | true =>
   go_wp2_with fail
   refine (hN1 _).mono ?_
   rintro e w5 ⟨rfl, hw5⟩
   have hw5 := hw5.symm
   subst hw5
   go_wp2
   go_ret
   exact HP.out _
set_option maxRecDepth 20000 in
set_option maxHeartbeats 8000000 in
theorem rd_lineZoneB (B p K b : Nat) (rv zv lv : Value) (R : RelD) (evs : List Value) (w : World) (h : RdV w B p rv zv lv false R evs K) (hB : B ≤ w.heap.size) (hK : K ≤ 8001) (tb : ∃ cs, w.heap[b]? = some (.cells cs 9 (0, 0))) (s0 s1 : ByteArray) (c0 : w.cell? ⟨b, 0, none⟩ = some (.string s0)) (c1 : w.cell? ⟨b, 1, none⟩ = some (.string s1)) (z1 : s1.size ≤ 8000) (h0 : (s0.toList == [82, 117, 108, 101]) = false) (h1 : (s0.toList == [90, 111, 110, 101]) = true) :
  Calls Tryz.prog 63 #[.pointer (some ⟨p, 0, none⟩), .slice (some ⟨b, 0, none⟩) 2 2] w fun e w' => LineP B p K w e w' := by
 obtain ⟨i0, hi, hz0, hz1, hz2⟩ := infoZone
 have c3 := h.c3
 have hN1 := fun w => spec_NameRight s1 w (by unfold maxLen; omega)
 go_enter Tryz.func63, Tryz.ntmps63
 go_wp2_with fail
 refine (rd_ReadEra b 0 0 0 _ (by omega) (by omega) ⟨fun k hk => by omega⟩).mono ?_
 rintro e w1 hP
 obtain ⟨⟨e0, e1, e2, e3, e4, e5⟩, m2, kx, rfl, hX8, hb1⟩ := hP.ex
 unfold EraD.v
 have h1 := h.below hb1
 have c11 := bkeep c1 hb1
 have tb1 : ∃ cs, w1.heap[b]? = some (.cells cs 9 (0, 0)) := by
  obtain ⟨cs, hc⟩ := tb
  exact ⟨cs, (hb1.block b (World.block_lt_of_cell? _ _ c1)).trans hc⟩
 clear hP c3 c0
 go_upto_region 16 with fail
 obtain ⟨wv, hwv⟩ : ∃ x : World, (w1.alloc (.cells #[.int .i64 e0, .string e1, .int .i64 e2, .string e3, .int .i64 e4, .string e5] 130)) = x := ⟨_, rfl⟩
 have hbv : Below w1.heap.size w1 wv := by rw [← hwv]; exact (Below.refl _ _).alloc (Nat.le_refl _) _
 have k0 : wv.cell? ⟨w1.heap.size, 0, none⟩ = some (.int .i64 e0) := by rw [← hwv]; simp [go_sem]
 have k1 : wv.cell? ⟨w1.heap.size, 1, none⟩ = some (.string e1) := by rw [← hwv]; simp [go_sem]
 have k2 : wv.cell? ⟨w1.heap.size, 2, none⟩ = some (.int .i64 e2) := by rw [← hwv]; simp [go_sem]
 have k3 : wv.cell? ⟨w1.heap.size, 3, none⟩ = some (.string e3) := by rw [← hwv]; simp [go_sem]
 have k4 : wv.cell? ⟨w1.heap.size, 4, none⟩ = some (.int .i64 e4) := by rw [← hwv]; simp [go_sem]
 have k5 : wv.cell? ⟨w1.heap.size, 5, none⟩ = some (.string e5) := by rw [← hwv]; simp [go_sem]
 have h2 := h1.below hbv
 have c1v := bkeep c11 hbv
 have tbv : ∃ cs, wv.heap[b]? = some (.cells cs 9 (0, 0)) := by
  obtain ⟨cs, hc⟩ := tb1
  exact ⟨cs, (hbv.block b (World.block_lt_of_cell? _ _ c11)).trans hc⟩
 have hBv : B ≤ wv.heap.size := Nat.le_trans hB (Nat.le_trans hb1.size hbv.size)
 have hbw : Below B w wv := (hb1.mono hB).trans (hbv.mono (Nat.le_trans hB hb1.size))
 rw [hwv]
 clear hwv
 obtain ⟨ra, rc, hrv⟩ := own_shape h2.zz
 subst hrv
 obtain ⟨N, hN⟩ : ∃ N, R.zones.length = N := ⟨_, rfl⟩
 have hRR : wv.ownsRow B 121 2 (.slice ra N rc) N (zrows R.zones evs).flatten := by have := h2.zz; rw [hN] at this; exact this
 have hN8 : N ≤ 8001 := by have := h2.sz.2.1; omega
 have q0 : wv.cell? ⟨p, 1, none⟩ = some (.slice ra N rc) := by have := h2.c1; rw [hN] at this; exact this
 have qf : wv.frozen? ⟨p, 1, none⟩ = false := fz_of h2.tp 1
 have hne : some p ≠ (Value.slice ra N rc).ownBlock := sepT hRR h2.tp tne3
 have hbp : p ≠ b := tp_ne h2.tp tbv (by decide)
 have hbs : some b ≠ (Value.slice ra N rc).ownBlock := sepT hRR tbv (by decide)
 have HD : Hid (RdV wv B p rv (.slice ra N rc) lv false R evs K) := by have := h2; rw [hN] at this; exact this
 have HN : Hid (R.zones.length = N) := hN
 have ba : ∀ o o2, Below wv.heap.size wv ((wv.alloc o).alloc o2).drew := fun o o2 => ⟨rfl, rfl, rfl, (((Below.refl wv.heap.size wv).alloc (Nat.le_refl _) o).alloc (by simp) o2).size, (((Below.refl wv.heap.size wv).alloc (Nat.le_refl _) o).alloc (by simp) o2).block⟩
 have hR2 : ∀ o o2, ((wv.alloc o).alloc o2).drew.ownsRow B 121 2 (.slice ra N rc) N (zrows R.zones evs).flatten := fun o o2 => World.ownsRow.drew (World.ownsRow.alloc (World.ownsRow.alloc hRR o) o2)
 have hC2 : ∀ j u, [Value.string s1, .slice (some ⟨wv.heap.size, 0, none⟩) 1 1][j]? = some u → (((wv.alloc (.cells #[.int .i64 e0, .string e1, .int .i64 e2, .string e3, .int .i64 e4, .string e5] 130)).alloc (.cells #[.string s1, .slice (some ⟨wv.heap.size, 0, none⟩) 1 1] 121)).drew).cell? ((⟨wv.heap.size + 1, 0, none⟩ : Addr).add j) = some u := fun j u hj => by
  have := cells_new (wv.alloc (.cells #[.int .i64 e0, .string e1, .int .i64 e2, .string e3, .int .i64 e4, .string e5] 130)) [.string s1, .slice (some ⟨wv.heap.size, 0, none⟩) 1 1] 121 j u hj
  rw [show (wv.alloc (.cells #[.int .i64 e0, .string e1, .int .i64 e2, .string e3, .int .i64 e4, .string e5] 130)).heap.size = wv.heap.size + 1 by simp] at this
  exact this
 have hBa : ∀ o o2, B ≤ ((wv.alloc o).alloc o2).drew.heap.size := fun o o2 => Nat.le_trans hBv (ba o o2).size
 have hplt : p < wv.heap.size := World.block_lt_of_cell? _ _ q0
 have HE : Hid (∀ o2, (((wv.alloc (.cells #[.int .i64 e0, .string e1, .int .i64 e2, .string e3, .int .i64 e4, .string e5] 130)).alloc o2).drew).ownsRow B 130 6 (.slice (some ⟨wv.heap.size, 0, none⟩) 1 1) 1 [.int .i64 e0, .string e1, .int .i64 e2, .string e3, .int .i64 e4, .string e5]) := fun o2 => World.ownsRow.drew (World.ownsRow.alloc (World.ownsRow_lit wv #[.int .i64 e0, .string e1, .int .i64 e2, .string e3, .int .i64 e4, .string e5] 1 hBv (by unfold maxLen; omega) rfl) o2)
 have HF : Hid (∀ (i : Nat) ev, evs[i]? = some ev → ev.ownBlock ≠ some wv.heap.size) := fun i ev hev hg => by
  have hl := (List.getElem?_eq_some_iff.mp hev).1
  rw [HD.out.el] at hl
  have := World.ownsRow.lt (HD.out.ee i _ ev (List.getElem?_eq_getElem hl) hev).1 _ hg
  omega
 clear h2 h1 h hb1 hbv hN tb tb1 tbv c11 c1
 have c1a : (wv.alloc (.cells #[.int .i64 e0, .string e1, .int .i64 e2, .string e3, .int .i64 e4, .string e5] 130)).cell? ⟨b, 1, none⟩ = some (.string s1) := bkeep (w1 := wv) c1v ((Below.refl _ _).alloc (Nat.le_refl _) _)
 have q0a : (wv.alloc (.cells #[.int .i64 e0, .string e1, .int .i64 e2, .string e3, .int .i64 e4, .string e5] 130)).cell? ⟨p, 1, none⟩ = some (.slice ra N rc) := bkeep (w1 := wv) q0 ((Below.refl _ _).alloc (Nat.le_refl _) _)
 have q0b : ((wv.alloc (.cells #[.int .i64 e0, .string e1, .int .i64 e2, .string e3, .int .i64 e4, .string e5] 130)).alloc (.cells #[.string s1, .slice (some ⟨wv.heap.size, 0, none⟩) 1 1] 121)).cell? ⟨p, 1, none⟩ = some (.slice ra N rc) := bkeep (w1 := wv) q0 (((Below.refl _ _).alloc (Nat.le_refl _) _).alloc (by simp) _)
 go_region_law (refine step_append_lies _ (by rfl) (.tmp 96) (.tmp 103) 87 (by rfl) B 121 i0 (.agg #[.string ⟨#[]⟩, .slice none 0 0]) 2 40 Tryz.underlying87 hi hz0 hz1 hz2 rfl (by omega) (.slice ra N rc) N (zrows R.zones evs).flatten (by rfl) (hR2 _ _) ⟨wv.heap.size + 1, 0, none⟩ 1 1 [.string s1, .slice (some ⟨wv.heap.size, 0, none⟩) 1 1] (by rfl) rfl hC2 (by intro u hu; simp at hu; rcases hu with rfl | rfl <;> rfl) (by omega) (by unfold maxLen; omega) (by omega) (hBa _ _) _ rfl ?_; intro g1 cap1 w2 hown1 hgrow hat hlt1; have r1 := hgrow.cell (a := ⟨p, 1, none⟩) (bkeep (w1 := wv) q0 (ba _ _)) hne; have r2 := (hgrow.frozen_far ⟨p, 1, none⟩ (Nat.lt_of_lt_of_le hplt (ba _ _).size) hne).trans (((bcell (ba _ _)).2 _ _ hplt).trans qf))
 all_goals
  have h3 := (HD.out.below (ba (.cells #[.int .i64 e0, .string e1, .int .i64 e2, .string e3, .int .i64 e4, .string e5] 130) (.cells #[.string s1, .slice (some ⟨wv.heap.size, 0, none⟩) 1 1] 121))).addZone (m2 := m2) (nm := s1) (E := ⟨e0, e1, e2, e3, e4, e5⟩) (HE.out (.cells #[.string s1, .slice (some ⟨wv.heap.size, 0, none⟩) 1 1] 121)) HF.out hgrow (by rw [HN.out]; exact hown1) z1 hX8
  have hb2 := (bel_grown (hbw.trans ((ba (.cells #[.int .i64 e0, .string e1, .int .i64 e2, .string e3, .int .i64 e4, .string e5] 130) (.cells #[.string s1, .slice (some ⟨wv.heap.size, 0, none⟩) 1 1] 121)).mono hBv)) hgrow (hR2 _ _) (Nat.le_refl _) (hBa _ _)).setCell (p := ⟨p, 1, none⟩) HD.out.hp (.slice (some ⟨g1, 0, none⟩) (N + 1) cap1)
  have hb3 := hb2.setCell (p := ⟨p, 3, none⟩) HD.out.hp (.bool m2)
  obtain ⟨d0, d1, d2, d3, dt⟩ := (HD.out.below (ba (.cells #[.int .i64 e0, .string e1, .int .i64 e2, .string e3, .int .i64 e4, .string e5] 130) (.cells #[.string s1, .slice (some ⟨wv.heap.size, 0, none⟩) 1 1] 121))).cells hgrow hne
  have x3 : (w2.setCell ⟨p, 1, none⟩ (.slice (some ⟨g1, 0, none⟩) (N + 1) cap1)).cell? ⟨p, 3, none⟩ = some (.bool false) := by rw [World.cell?_setCell_other _ _ _ _ (by simp)]; exact d3
  have f3 : (w2.setCell ⟨p, 1, none⟩ (.slice (some ⟨g1, 0, none⟩) (N + 1) cap1)).frozen? ⟨p, 3, none⟩ = false := by rw [World.frozen?_setCell]; exact fz_of dt 3
  have e1' : ((w2.setCell ⟨p, 1, none⟩ (.slice (some ⟨g1, 0, none⟩) (N + 1) cap1)).setCell ⟨p, 3, none⟩ (.bool m2)).cell? ⟨b, 1, none⟩ = some (.string s1) := by rw [World.cell?_setCell_other _ _ _ _ (by simp <;> omega), World.cell?_setCell_other _ _ _ _ (by simp <;> omega)]; exact hgrow.cell (a := ⟨b, 1, none⟩) (bkeep (w1 := wv) c1v (ba _ _)) hbs
  have HP : Hid (∀ k, LineP B p K w (.returned (.bool k)) ((w2.setCell ⟨p, 1, none⟩ (.slice (some ⟨g1, 0, none⟩) (N + 1) cap1)).setCell ⟨p, 3, none⟩ (.bool m2))) := fun k => ⟨⟨k, _, _, _, _, _, _, rfl, h3, hb3⟩⟩
  clear h3 hb2 hb3 hgrow hat hlt1 r1 r2 hown1 d0 d1 d2 d3 dt
  generalize w2.setCell ⟨p, 1, none⟩ (.slice (some ⟨g1, 0, none⟩) (N + 1) cap1) = w3 at *
  go_upto_region 18 with fail
  generalize w3.setCell ⟨p, 3, none⟩ (.bool m2) = w4 at *
  cases kx with
  | false =>
   go_wp2
   go_ret
   exact HP.out _
  | true =>
   go_wp2_with fail
   refine (hN1 _).mono ?_
   rintro e w5 ⟨rfl, hw5⟩
   have hw5 := hw5.symm
   subst hw5
   go_wp2
   go_ret
   exact HP.out _
theorem rd_lineZone (B p K b n cap : Nat) (rv zv lv : Value) (R : RelD) (evs : List Value) (w : World) (h : RdV w B p rv zv lv false R evs K) (hB : B ≤ w.heap.size) (hK : K ≤ 8001) (tb : ∃ cs, w.heap[b]? = some (.cells cs 9 (0, 0))) (hn : 2 ≤ n) (hn2 : n ≤ 8001) (hcap : n ≤ cap) (hW : WrdAt w b 0 n) (s0 s1 : ByteArray) (c0 : w.cell? ⟨b, 0, none⟩ = some (.string s0)) (c1 : w.cell? ⟨b, 1, none⟩ = some (.string s1)) (z1 : s1.size ≤ 8000) (h0 : (s0.toList == [82, 117, 108, 101]) = false) (h1 : (s0.toList == [90, 111, 110, 101]) = true) :
  Calls Tryz.prog 63 #[.pointer (some ⟨p, 0, none⟩), .slice (some ⟨b, 0, none⟩) n cap] w fun e w' => LineP B p K w e w' := by
 by_cases hc : cap = 2
 ·
  subst hc
  obtain rfl : n = 2 := by omega
  exact rd_lineZoneB B p K b rv zv lv R evs w h hB hK tb s0 s1 c0 c1 z1 h0 h1
 ·
  exact rd_lineZoneA B p K b n cap rv zv lv R evs w h hB hK tb hn hn2 hcap hc hW s0 s1 c0 c1 z1 h0 h1
end Go.Proofs.YtcelbkmnbjcjhaaGreat
