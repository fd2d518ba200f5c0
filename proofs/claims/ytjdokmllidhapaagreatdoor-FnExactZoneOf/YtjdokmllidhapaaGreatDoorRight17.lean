/- What is asked of a zone: the model's walk. -/
import Derived.Test.YtjdokmllidhapaaGreatDoorRight14
import Derived.Test.YtjdokmllidhapaaGreatDoorRelEra
namespace Go.Proofs.YtjdokmllidhapaaGreatDoor
open Go.RowKit Go.Sort

set_option maxHeartbeats 4000000 in
theorem spec_l02Zone (r : RelD) (v : Value) (z : ZoneD) (u : Value) (w : World) (hv : RelAt w v r) (hu : EraSl w u z.eras) (ok : z.ok) (hl : r.rules.length ≤ 1048576) :
    Calls Tryz.prog 63 #[v, .agg #[.string z.name, u]] w fun e w' => e = .returned (.bool (zoneMB r.rules z)) ∧ Below w.heap.size w w' := by
  obtain ⟨a, cap, rfl, hA⟩ := hu
  obtain ⟨m1, m2, m3⟩ := ok
  unfold maxLen at m2
  have h1 := fun w => spec_NameRight z.name w m1
  obtain ⟨ra, rb, rc, ca, cb, cc, hvv, _, _, _⟩ := hv.form
  have hB0 := fun o o2 => ((Below.refl w.heap.size w).alloc (Nat.le_refl _) o).alloc (by simp) o2
  generalize r.zones.length = zn at *
  generalize r.links.length = kn at *
  generalize hrn : r.rules.length = rn at *
  subst hvv
  cases hn : nameB z.name
  · rw [zoneM_no fun h => by have := h.name; rw [hn] at this; cases this]
    rw [hn] at h1
    clear hn
    go_enter Tryz.func63, Tryz.ntmps63
    go_wp2_with fail
    refine (h1 _).mono ?_
    rintro e w' ⟨rfl, rfl⟩
    go_wp2
    go_ret
    exact ⟨rfl, hB0 _ _⟩
  rw [hn] at h1
  by_cases hl0 : z.eras.length < 1
  · rw [zoneM_no fun h => by have := h.len; omega]
    go_enter Tryz.func63, Tryz.ntmps63
    go_wp2_with fail
    refine (h1 _).mono ?_
    rintro e w' ⟨rfl, rfl⟩
    go_wp2
    go_ret
    exact ⟨rfl, hB0 _ _⟩
  by_cases hl8 : 8 < z.eras.length
  · rw [zoneM_no fun h => by have := h.len; omega]
    go_enter Tryz.func63, Tryz.ntmps63
    go_wp2_with fail
    refine (h1 _).mono ?_
    rintro e w' ⟨rfl, rfl⟩
    go_wp2
    go_ret
    exact ⟨rfl, hB0 _ _⟩
  have HZ : Hid ((∀ k e, z.eras[k]? = some e → StepM r.rules z.eras k e) → zoneMB r.rules z = true) := fun h => zoneM_yes ⟨hn, by omega, h⟩
  have HN : Hid (∀ k e, z.eras[k]? = some e → ¬ StepM r.rules z.eras k e → zoneMB r.rules z = false) := fun k e hk h => zoneM_no fun hz => h (hz.steps k e hk)
  clear hn
  generalize zoneMB r.rules z = zb at *
  obtain ⟨nm, es⟩ := z
  simp only at *
  go_enter Tryz.func63, Tryz.ntmps63
  go_wp2_with fail
  refine (h1 _).mono ?_
  rintro e w' ⟨rfl, rfl⟩
  clear h1
  go_wp2
  have hB0' := hB0 (.cells #[.slice ra rn ca, .slice rb zn cb, .slice rc kn cc] 27) (.cells #[.string nm, .slice a es.length cap] 49)
  clear hB0
  have hA1 := hA.below hB0'
  have hv1 := hv.below hB0'
  have x0 : ((w.alloc (.cells #[.slice ra rn ca, .slice rb zn cb, .slice rc kn cc] 27)).alloc (.cells #[.string nm, .slice a es.length cap] 49)).cell? ⟨w.heap.size, 0, none⟩ = some (.slice ra rn ca) := by simp [go_sem]
  have x1 : ((w.alloc (.cells #[.slice ra rn ca, .slice rb zn cb, .slice rc kn cc] 27)).alloc (.cells #[.string nm, .slice a es.length cap] 49)).cell? ⟨w.heap.size, 1, none⟩ = some (.slice rb zn cb) := by simp [go_sem]
  have x2 : ((w.alloc (.cells #[.slice ra rn ca, .slice rb zn cb, .slice rc kn cc] 27)).alloc (.cells #[.string nm, .slice a es.length cap] 49)).cell? ⟨w.heap.size, 2, none⟩ = some (.slice rc kn cc) := by simp [go_sem]
  have x3 : ((w.alloc (.cells #[.slice ra rn ca, .slice rb zn cb, .slice rc kn cc] 27)).alloc (.cells #[.string nm, .slice a es.length cap] 49)).cell? ⟨w.heap.size + 1, 1, none⟩ = some (.slice a es.length cap) := by simp [go_sem]
  generalize hW : ((w.alloc (.cells #[.slice ra rn ca, .slice rb zn cb, .slice rc kn cc] 27)).alloc (.cells #[.string nm, .slice a es.length cap] 49)) = W at *
  go_loopw [6] (fun i wr => ∃ k : Nat, k ≤ es.length ∧ i = .int .i64 k ∧ Hid (∀ j, j < k → ∀ x, es[j]? = some x → StepM r.rules es j x) ∧ Below W.heap.size W wr) (fun i _ => es.length - (intOf i).toNat)
  case atStart => exact ⟨0, by omega, rfl, fun j hj => by omega, by subst hW; exact Below.refl _ _⟩
  case round =>
    obtain ⟨k, hk, rfl, hall, hB⟩ := hrel
    by_cases hlt : k < es.length
    · obtain ⟨x, hx⟩ : ∃ x, es[k]? = some x := ⟨_, List.getElem?_eq_getElem hlt⟩
      have okx := m3 x (List.mem_of_getElem? hx)
      have hBV : Below W.heap.size W (wr.alloc (.cells #[.int .i64 x.offset, .string x.rules, .int .i64 x.save, .string x.format, .int .i64 x.until_, .string x.of] 55)) := hB.alloc hB.size _
      obtain ⟨b, o, rfl, hc⟩ := (hA1.below hB).at (i := k) (r := x.cs) (by rw [List.getElem?_map, hx]; rfl)
      have c0 : wr.cell? ⟨b, o + k * 6, none⟩ = some (.int .i64 x.offset) := hc 0 _ rfl
      have c1 := hc 1 _ rfl
      have c2 := hc 2 _ rfl
      have c3 := hc 3 _ rfl
      have c4 := hc 4 _ rfl
      have c5 := hc 5 _ rfl
      clear hc
      have y3 : wr.cell? ⟨w.heap.size + 1, 1, none⟩ = some (.slice (some ⟨b, o, none⟩) es.length cap) := by rw [(bcell hB).1 _ _ (World.block_lt_of_cell? _ _ x3)]; exact x3
      have k0 := cell_regrown ((bcell hBV).1 _ _ (World.block_lt_of_cell? _ _ x0) |>.trans x0)
      have k1 := cell_regrown ((bcell hBV).1 _ _ (World.block_lt_of_cell? _ _ x1) |>.trans x1)
      have k2 := cell_regrown ((bcell hBV).1 _ _ (World.block_lt_of_cell? _ _ x2) |>.trans x2)
      have k3 := cell_regrown ((bcell hBV).1 _ _ (World.block_lt_of_cell? _ _ x3) |>.trans x3)
      have e0 := cell_regrown (w := wr.alloc (.cells #[.int .i64 x.offset, .string x.rules, .int .i64 x.save, .string x.format, .int .i64 x.until_, .string x.of] 55)) (show _ = some (Value.int .i64 x.offset) from by first | (simp; done) | simp [go_sem] : (wr.alloc (.cells #[.int .i64 x.offset, .string x.rules, .int .i64 x.save, .string x.format, .int .i64 x.until_, .string x.of] 55)).cell? ⟨wr.heap.size, 0, none⟩ = _)
      have e1 := cell_regrown (w := wr.alloc (.cells #[.int .i64 x.offset, .string x.rules, .int .i64 x.save, .string x.format, .int .i64 x.until_, .string x.of] 55)) (show _ = some (Value.string x.rules) from by first | (simp; done) | simp [go_sem] : (wr.alloc (.cells #[.int .i64 x.offset, .string x.rules, .int .i64 x.save, .string x.format, .int .i64 x.until_, .string x.of] 55)).cell? ⟨wr.heap.size, 1, none⟩ = _)
      have e2 := cell_regrown (w := wr.alloc (.cells #[.int .i64 x.offset, .string x.rules, .int .i64 x.save, .string x.format, .int .i64 x.until_, .string x.of] 55)) (show _ = some (Value.int .i64 x.save) from by first | (simp; done) | simp [go_sem] : (wr.alloc (.cells #[.int .i64 x.offset, .string x.rules, .int .i64 x.save, .string x.format, .int .i64 x.until_, .string x.of] 55)).cell? ⟨wr.heap.size, 2, none⟩ = _)
      have e3 := cell_regrown (w := wr.alloc (.cells #[.int .i64 x.offset, .string x.rules, .int .i64 x.save, .string x.format, .int .i64 x.until_, .string x.of] 55)) (show _ = some (Value.string x.format) from by first | (simp; done) | simp [go_sem] : (wr.alloc (.cells #[.int .i64 x.offset, .string x.rules, .int .i64 x.save, .string x.format, .int .i64 x.until_, .string x.of] 55)).cell? ⟨wr.heap.size, 3, none⟩ = _)
      have e4 := cell_regrown (w := wr.alloc (.cells #[.int .i64 x.offset, .string x.rules, .int .i64 x.save, .string x.format, .int .i64 x.until_, .string x.of] 55)) (show _ = some (Value.int .i64 x.until_) from by first | (simp; done) | simp [go_sem] : (wr.alloc (.cells #[.int .i64 x.offset, .string x.rules, .int .i64 x.save, .string x.format, .int .i64 x.until_, .string x.of] 55)).cell? ⟨wr.heap.size, 4, none⟩ = _)
      have e5 := cell_regrown (w := wr.alloc (.cells #[.int .i64 x.offset, .string x.rules, .int .i64 x.save, .string x.format, .int .i64 x.until_, .string x.of] 55)) (show _ = some (Value.string x.of) from by first | (simp; done) | simp [go_sem] : (wr.alloc (.cells #[.int .i64 x.offset, .string x.rules, .int .i64 x.save, .string x.format, .int .i64 x.until_, .string x.of] 55)).cell? ⟨wr.heap.size, 5, none⟩ = _)
      have cE : ∀ dd os, Calls Tryz.prog _ _ (grow (redrawn (wr.alloc (.cells #[.int .i64 x.offset, .string x.rules, .int .i64 x.save, .string x.format, .int .i64 x.until_, .string x.of] 55)) dd) os) fun e w'' => e = .returned (.bool (eraM r.rules x)) ∧ ∃ p : Regrown, w'' = grow (redrawn (wr.alloc (.cells #[.int .i64 x.offset, .string x.rules, .int .i64 x.save, .string x.format, .int .i64 x.until_, .string x.of] 55)) p.d) p.os := fun dd os => Calls.regrown_of (spec_l02Era r _ x _ ((hv1.below hBV).below (below_regrown _ dd os)) okx (by omega))
      unfold EraD.v at cE
      go_wp2_with fail
      generalize hV : (wr.alloc (.cells #[.int .i64 x.offset, .string x.rules, .int .i64 x.save, .string x.format, .int .i64 x.until_, .string x.of] 55)) = V at *
      generalize wr.heap.size = g at *
      clear c0 c1 c2 c3 c4 c5 y3
      cases hbe : eraM r.rules x
      · rw [hbe] at cE
        have HR : Hid (zb = false) := HN.out k x hx fun h => by have := h.era; rw [hbe] at this; cases this
        clear HZ HN
        refine wp_region_quiet_below (by kernel_rfl) (by kernel_rfl) ?_
        repeat (first | go_big_quiet_step ((go_at_call 127; exact cE _ _)) | quiet_step ((go_at_call 127; exact cE _ _)))
        refine wpQuiet_nil ?_
        intro _ hw'
        obtain ⟨⟨dq, osq⟩, hw''⟩ := hw'
        subst hw''
        have hb2 := below_regrown V dq osq
        go_wp2
        go_ret
        exact ⟨ret_bool HR.out.symm, hB0'.trans ((hBV.trans (hb2.mono hBV.size)).mono hB0'.size)⟩

      · rw [hbe] at cE
        by_cases hk0 : k = 0
        · have hk1 : decide ((0 : Int) < (k : Int)) = false := by simp; omega
          have hk3 : decide (0 < k) = false := by simp; omega
          have hk2 : Hid (k = 0) := hk0
          clear hk0
          by_cases g1 : Hid (x.until_ = 253402300799)
          · have g1' : (x.until_ == 253402300799) = true := by simpa using g1.out
            by_cases g2 : Hid (k + 1 = es.length)
            · have g2' : ((((k : Nat) : Int)) == ((es.length : Int) - 1)) = true := by have := g2.out; simp; omega
              cases g3 : (x.of.toList == [119])
              · have g4 : Hid (x.of.toList ≠ [119]) := by simp only [Hid]; simpa using g3
                have HR : Hid (zb = false) := HN.out (k) x hx fun h => by exact g4.out (h.of g2.out)
                clear HZ HN hall
                refine wp_region_quiet_below (by kernel_rfl) (by kernel_rfl) ?_
                repeat (first | go_big_quiet_step ((go_at_call 127; exact cE _ _)) | quiet_step ((go_at_call 127; exact cE _ _)))
                refine wpQuiet_nil ?_
                intro _ hw'
                obtain ⟨⟨dq, osq⟩, hw''⟩ := hw'
                subst hw''
                have hb2 := below_regrown V dq osq
                go_wp2
                go_ret
                exact ⟨ret_bool HR.out.symm, hB0'.trans ((hBV.trans (hb2.mono hBV.size)).mono hB0'.size)⟩
              · have g4 : Hid (x.of.toList = [119]) := by simp only [Hid]; simpa using g3
                have HR : Hid (∀ i, i < k + 1 → ∀ y, es[i]? = some y → StepM r.rules es i y) := fun i hi y hy => by
                  by_cases e : i = k
                  · subst e; rw [hx] at hy; obtain rfl := Option.some.inj hy; exact ⟨hbe, fun j p hj _ => by have := hk2.out; omega, ⟨fun _ => g2.out, fun _ => g1.out⟩, fun _ => g4.out⟩
                  · exact hall.out i (by omega) y hy
                clear HZ HN hall
                refine wp_region_quiet_below (by kernel_rfl) (by kernel_rfl) ?_
                repeat (first | go_big_quiet_step ((go_at_call 127; exact cE _ _)) | quiet_step ((go_at_call 127; exact cE _ _)))
                refine wpQuiet_nil ?_
                intro _ hw'
                obtain ⟨⟨dq, osq⟩, hw''⟩ := hw'
                subst hw''
                have hb2 := below_regrown V dq osq
                go_wp2
                go_roundw
                case rel => exact ⟨k + 1, by omega, by go_num, HR, hBV.trans (hb2.mono hBV.size)⟩
                case measure => simp [intOf]; omega
            · have g2' : ((((k : Nat) : Int)) == ((es.length : Int) - 1)) = false := by have g2n : ¬ (k + 1 = es.length) := fun h => g2 h; simp; omega
              have HR : Hid (zb = false) := HN.out (k) x hx fun h => by exact g2 (h.last.mp g1.out)
              clear HZ HN hall
              refine wp_region_quiet_below (by kernel_rfl) (by kernel_rfl) ?_
              repeat (first | go_big_quiet_step ((go_at_call 127; exact cE _ _)) | quiet_step ((go_at_call 127; exact cE _ _)))
              refine wpQuiet_nil ?_
              intro _ hw'
              obtain ⟨⟨dq, osq⟩, hw''⟩ := hw'
              subst hw''
              have hb2 := below_regrown V dq osq
              go_wp2
              go_ret
              exact ⟨ret_bool HR.out.symm, hB0'.trans ((hBV.trans (hb2.mono hBV.size)).mono hB0'.size)⟩
          · have g1' : (x.until_ == 253402300799) = false := by simp; exact fun h => g1 h
            by_cases g2 : Hid (k + 1 = es.length)
            · have g2' : ((((k : Nat) : Int)) == ((es.length : Int) - 1)) = true := by have := g2.out; simp; omega
              have HR : Hid (zb = false) := HN.out (k) x hx fun h => by exact g1 (h.last.mpr g2.out)
              clear HZ HN hall
              refine wp_region_quiet_below (by kernel_rfl) (by kernel_rfl) ?_
              repeat (first | go_big_quiet_step ((go_at_call 127; exact cE _ _)) | quiet_step ((go_at_call 127; exact cE _ _)))
              refine wpQuiet_nil ?_
              intro _ hw'
              obtain ⟨⟨dq, osq⟩, hw''⟩ := hw'
              subst hw''
              have hb2 := below_regrown V dq osq
              go_wp2
              go_ret
              exact ⟨ret_bool HR.out.symm, hB0'.trans ((hBV.trans (hb2.mono hBV.size)).mono hB0'.size)⟩
            · have g2' : ((((k : Nat) : Int)) == ((es.length : Int) - 1)) = false := by have g2n : ¬ (k + 1 = es.length) := fun h => g2 h; simp; omega
              have HR : Hid (∀ i, i < k + 1 → ∀ y, es[i]? = some y → StepM r.rules es i y) := fun i hi y hy => by
                by_cases e : i = k
                · subst e; rw [hx] at hy; obtain rfl := Option.some.inj hy; exact ⟨hbe, fun j p hj _ => by have := hk2.out; omega, ⟨fun h => absurd h g1, fun h => absurd h g2⟩, fun h => absurd h g2⟩
                · exact hall.out i (by omega) y hy
              clear HZ HN hall
              refine wp_region_quiet_below (by kernel_rfl) (by kernel_rfl) ?_
              repeat (first | go_big_quiet_step ((go_at_call 127; exact cE _ _)) | quiet_step ((go_at_call 127; exact cE _ _)))
              refine wpQuiet_nil ?_
              intro _ hw'
              obtain ⟨⟨dq, osq⟩, hw''⟩ := hw'
              subst hw''
              have hb2 := below_regrown V dq osq
              go_wp2
              go_roundw
              case rel => exact ⟨k + 1, by omega, by go_num, HR, hBV.trans (hb2.mono hBV.size)⟩
              case measure => simp [intOf]; omega

        · obtain ⟨j, rfl⟩ : ∃ j, k = j + 1 := ⟨k - 1, by omega⟩
          obtain ⟨q, hq⟩ : ∃ q, es[j]? = some q := ⟨_, List.getElem?_eq_getElem (by omega)⟩
          obtain ⟨b', o', he, hd⟩ := (hA1.below hBV).at (i := j) (r := q.cs) (by rw [List.getElem?_map, hq]; rfl)
          injection he with he
          injection he with u1 u2
          subst u1 u2
          have p4 := cell_regrown (hd 4 _ rfl)
          clear hd
          by_cases hu : q.until_ < x.until_
          · have hu' : decide (x.until_ ≤ q.until_) = false := by simpa using hu
            by_cases g1 : Hid (x.until_ = 253402300799)
            · have g1' : (x.until_ == 253402300799) = true := by simpa using g1.out
              by_cases g2 : Hid (j + 1 + 1 = es.length)
              · have g2' : ((((j + 1 : Nat) : Int)) == ((es.length : Int) - 1)) = true := by have := g2.out; simp; omega
                have g5 : (((j : Int) + 1) == ((es.length : Int) - 1)) = true := by have := g2.out; simp; omega
                cases g3 : (x.of.toList == [119])
                · have g4 : Hid (x.of.toList ≠ [119]) := by simp only [Hid]; simpa using g3
                  have HR : Hid (zb = false) := HN.out (j + 1) x hx fun h => by exact g4.out (h.of g2.out)
                  clear HZ HN hall
                  refine wp_region_quiet_below (by kernel_rfl) (by kernel_rfl) ?_
                  repeat (first | go_big_quiet_step ((go_at_call 127; exact cE _ _)) | quiet_step ((go_at_call 127; exact cE _ _)))
                  refine wpQuiet_nil ?_
                  intro _ hw'
                  obtain ⟨⟨dq, osq⟩, hw''⟩ := hw'
                  subst hw''
                  have hb2 := below_regrown V dq osq
                  go_wp2
                  go_ret
                  exact ⟨ret_bool HR.out.symm, hB0'.trans ((hBV.trans (hb2.mono hBV.size)).mono hB0'.size)⟩
                · have g4 : Hid (x.of.toList = [119]) := by simp only [Hid]; simpa using g3
                  have HR : Hid (∀ i, i < j + 1 + 1 → ∀ y, es[i]? = some y → StepM r.rules es i y) := fun i hi y hy => by
                    by_cases e : i = j + 1
                    · subst e; rw [hx] at hy; obtain rfl := Option.some.inj hy; exact ⟨hbe, fun i p hi hp => by obtain rfl : i = j := (by omega); rw [hq] at hp; obtain rfl := Option.some.inj hp; exact hu, ⟨fun _ => g2.out, fun _ => g1.out⟩, fun _ => g4.out⟩
                    · exact hall.out i (by omega) y hy
                  clear HZ HN hall
                  refine wp_region_quiet_below (by kernel_rfl) (by kernel_rfl) ?_
                  repeat (first | go_big_quiet_step ((go_at_call 127; exact cE _ _)) | quiet_step ((go_at_call 127; exact cE _ _)))
                  refine wpQuiet_nil ?_
                  intro _ hw'
                  obtain ⟨⟨dq, osq⟩, hw''⟩ := hw'
                  subst hw''
                  have hb2 := below_regrown V dq osq
                  go_wp2
                  go_roundw
                  case rel => exact ⟨j + 1 + 1, by omega, by go_num, HR, hBV.trans (hb2.mono hBV.size)⟩
                  case measure => simp [intOf]; omega
              · have g2' : ((((j + 1 : Nat) : Int)) == ((es.length : Int) - 1)) = false := by have g2n : ¬ (j + 1 + 1 = es.length) := fun h => g2 h; simp; omega
                have g5 : (((j : Int) + 1) == ((es.length : Int) - 1)) = false := by have g2n : ¬ (j + 1 + 1 = es.length) := fun h => g2 h; simp; omega
                have HR : Hid (zb = false) := HN.out (j + 1) x hx fun h => by exact g2 (h.last.mp g1.out)
                clear HZ HN hall
                refine wp_region_quiet_below (by kernel_rfl) (by kernel_rfl) ?_
                repeat (first | go_big_quiet_step ((go_at_call 127; exact cE _ _)) | quiet_step ((go_at_call 127; exact cE _ _)))
                refine wpQuiet_nil ?_
                intro _ hw'
                obtain ⟨⟨dq, osq⟩, hw''⟩ := hw'
                subst hw''
                have hb2 := below_regrown V dq osq
                go_wp2
                go_ret
                exact ⟨ret_bool HR.out.symm, hB0'.trans ((hBV.trans (hb2.mono hBV.size)).mono hB0'.size)⟩
            · have g1' : (x.until_ == 253402300799) = false := by simp; exact fun h => g1 h
              by_cases g2 : Hid (j + 1 + 1 = es.length)
              · have g2' : ((((j + 1 : Nat) : Int)) == ((es.length : Int) - 1)) = true := by have := g2.out; simp; omega
                have g5 : (((j : Int) + 1) == ((es.length : Int) - 1)) = true := by have := g2.out; simp; omega
                have HR : Hid (zb = false) := HN.out (j + 1) x hx fun h => by exact g1 (h.last.mpr g2.out)
                clear HZ HN hall
                refine wp_region_quiet_below (by kernel_rfl) (by kernel_rfl) ?_
                repeat (first | go_big_quiet_step ((go_at_call 127; exact cE _ _)) | quiet_step ((go_at_call 127; exact cE _ _)))
                refine wpQuiet_nil ?_
                intro _ hw'
                obtain ⟨⟨dq, osq⟩, hw''⟩ := hw'
                subst hw''
                have hb2 := below_regrown V dq osq
                go_wp2
                go_ret
                exact ⟨ret_bool HR.out.symm, hB0'.trans ((hBV.trans (hb2.mono hBV.size)).mono hB0'.size)⟩
              · have g2' : ((((j + 1 : Nat) : Int)) == ((es.length : Int) - 1)) = false := by have g2n : ¬ (j + 1 + 1 = es.length) := fun h => g2 h; simp; omega
                have g5 : (((j : Int) + 1) == ((es.length : Int) - 1)) = false := by have g2n : ¬ (j + 1 + 1 = es.length) := fun h => g2 h; simp; omega
                have HR : Hid (∀ i, i < j + 1 + 1 → ∀ y, es[i]? = some y → StepM r.rules es i y) := fun i hi y hy => by
                  by_cases e : i = j + 1
                  · subst e; rw [hx] at hy; obtain rfl := Option.some.inj hy; exact ⟨hbe, fun i p hi hp => by obtain rfl : i = j := (by omega); rw [hq] at hp; obtain rfl := Option.some.inj hp; exact hu, ⟨fun h => absurd h g1, fun h => absurd h g2⟩, fun h => absurd h g2⟩
                  · exact hall.out i (by omega) y hy
                clear HZ HN hall
                refine wp_region_quiet_below (by kernel_rfl) (by kernel_rfl) ?_
                repeat (first | go_big_quiet_step ((go_at_call 127; exact cE _ _)) | quiet_step ((go_at_call 127; exact cE _ _)))
                refine wpQuiet_nil ?_
                intro _ hw'
                obtain ⟨⟨dq, osq⟩, hw''⟩ := hw'
                subst hw''
                have hb2 := below_regrown V dq osq
                go_wp2
                go_roundw
                case rel => exact ⟨j + 1 + 1, by omega, by go_num, HR, hBV.trans (hb2.mono hBV.size)⟩
                case measure => simp [intOf]; omega

          · have hu' : decide (x.until_ ≤ q.until_) = true := by simpa using hu
            have HR : Hid (zb = false) := HN.out (j + 1) x hx fun h => by exact hu (h.up j q rfl hq)
            clear HZ HN hall
            refine wp_region_quiet_below (by kernel_rfl) (by kernel_rfl) ?_
            repeat (first | go_big_quiet_step ((go_at_call 127; exact cE _ _)) | quiet_step ((go_at_call 127; exact cE _ _)))
            refine wpQuiet_nil ?_
            intro _ hw'
            obtain ⟨⟨dq, osq⟩, hw''⟩ := hw'
            subst hw''
            have hb2 := below_regrown V dq osq
            go_wp2
            go_ret
            exact ⟨ret_bool HR.out.symm, hB0'.trans ((hBV.trans (hb2.mono hBV.size)).mono hB0'.size)⟩

    · have e : k = es.length := by omega
      subst e
      have HR : Hid (zb = true) := HZ.out fun j y hy => hall.out j (List.getElem?_eq_some_iff.mp hy).1 y hy
      go_wp2
      go_ret
      exact ⟨ret_bool HR.out.symm, hB0'.trans (hB.mono hB0'.size)⟩
end Go.Proofs.YtjdokmllidhapaaGreatDoor
