/- Packed: Right17 Right18 Right19 Right21. -/
import Derived.Test.YtcelbkmnbjcjhaaGreatRightBd
import Derived.Test.YtcelbkmnbjcjhaaGreatRelAd
import Derived.Test.YtcelbkmnbjcjhaaGreatShelf
import Derived.Lib.SlicesCompact
import Derived.Lib.OwnBridge
import Derived.OwnWalk
namespace Go.Proofs.YtcelbkmnbjcjhaaGreat
open Go.RowKit Go.Sort

set_option maxHeartbeats 4000000 in
theorem spec_l02Zone (r : RelD) (v : Value) (z : ZoneD) (u : Value) (w : World) (hv : RelAt w v r) (hu : EraSl w u z.eras) (ok : z.ok) (hl : r.rules.length ≤ 1048576) :
  Calls Tryz.prog 68 #[v, .agg #[.string z.name, u]] w fun e w' => e = .returned (.bool (zoneMB r.rules z)) ∧ Below w.heap.size w w' := by
 obtain ⟨a, cap, rfl, hA⟩ := hu
 obtain ⟨m1, m2, m3⟩ := ok
 unfold maxLen at m2
 have h1 := fun w => spec_NameRight z.name w m1
 obtain ⟨ra, rb, rc, ca, cb, cc, hvv, _, _, _⟩ := hv.form
 have hB0 := fun o o2 => ((Below.refl w.heap.size w).alloc (Nat.le_refl _) o).alloc (by simp) o2
 generalize r.zones.length = zn at *
 generalize r.links.length = kn at *
 generalize hrn : r.rules.length = rn at *
 subst hvv
 cases hn : nameB z.name
 ·
  rw [zoneM_no fun h => by have := h.name; rw [hn] at this; cases this]
  rw [hn] at h1
  clear hn
  go_enter Tryz.func68, Tryz.ntmps68
  go_wp2_with fail
  refine (h1 _).mono ?_
  rintro e w' ⟨rfl, rfl⟩
  go_wp2
  go_ret
  exact ⟨rfl, hB0 _ _⟩
 rw [hn] at h1
 by_cases hl0 : z.eras.length < 1
 ·
  rw [zoneM_no fun h => by have := h.len; omega]
  go_enter Tryz.func68, Tryz.ntmps68
  go_wp2_with fail
  refine (h1 _).mono ?_
  rintro e w' ⟨rfl, rfl⟩
  go_wp2
  go_ret
  exact ⟨rfl, hB0 _ _⟩
 by_cases hl8 : 8 < z.eras.length
 ·
  rw [zoneM_no fun h => by have := h.len; omega]
  go_enter Tryz.func68, Tryz.ntmps68
  go_wp2_with fail
  refine (h1 _).mono ?_
  rintro e w' ⟨rfl, rfl⟩
  go_wp2
  go_ret
  exact ⟨rfl, hB0 _ _⟩
 have HZ : Hid ((∀ k e, z.eras[k]? = some e → StepM r.rules z.eras k e) → zoneMB r.rules z = true) := fun h => zoneM_yes ⟨hn, by omega, h⟩
 have HN : Hid (∀ k e, z.eras[k]? = some e → ¬ StepM r.rules z.eras k e → zoneMB r.rules z = false) := fun k e hk h => zoneM_no fun hz => h (hz.steps k e hk)
 clear hn
 generalize zoneMB r.rules z = zb at *
 obtain ⟨nm, es⟩ := z
 simp only at *
 go_enter Tryz.func68, Tryz.ntmps68
 go_wp2_with fail
 refine (h1 _).mono ?_
 rintro e w' ⟨rfl, rfl⟩
 clear h1
 go_wp2
 have hB0' := hB0 (.cells #[.slice ra rn ca, .slice rb zn cb, .slice rc kn cc] 90) (.cells #[.string nm, .slice a es.length cap] 121)
 clear hB0
 have hA1 := hA.below hB0'
 have hv1 := hv.below hB0'
 have x0 : ((w.alloc (.cells #[.slice ra rn ca, .slice rb zn cb, .slice rc kn cc] 90)).alloc (.cells #[.string nm, .slice a es.length cap] 121)).cell? ⟨w.heap.size, 0, none⟩ = some (.slice ra rn ca) := by simp [go_sem]
 have x1 : ((w.alloc (.cells #[.slice ra rn ca, .slice rb zn cb, .slice rc kn cc] 90)).alloc (.cells #[.string nm, .slice a es.length cap] 121)).cell? ⟨w.heap.size, 1, none⟩ = some (.slice rb zn cb) := by simp [go_sem]
 have x2 : ((w.alloc (.cells #[.slice ra rn ca, .slice rb zn cb, .slice rc kn cc] 90)).alloc (.cells #[.string nm, .slice a es.length cap] 121)).cell? ⟨w.heap.size, 2, none⟩ = some (.slice rc kn cc) := by simp [go_sem]
 have x3 : ((w.alloc (.cells #[.slice ra rn ca, .slice rb zn cb, .slice rc kn cc] 90)).alloc (.cells #[.string nm, .slice a es.length cap] 121)).cell? ⟨w.heap.size + 1, 1, none⟩ = some (.slice a es.length cap) := by simp [go_sem]
 generalize hW : ((w.alloc (.cells #[.slice ra rn ca, .slice rb zn cb, .slice rc kn cc] 90)).alloc (.cells #[.string nm, .slice a es.length cap] 121)) = W at *
 go_loopw [6] (fun i wr => ∃ k : Nat, k ≤ es.length ∧ i = .int .i64 k ∧ Hid (∀ j, j < k → ∀ x, es[j]? = some x → StepM r.rules es j x) ∧ Below W.heap.size W wr) (fun i _ => es.length - (intOf i).toNat)
 case atStart => exact ⟨0, by omega, rfl, fun j hj => by omega, by subst hW; exact Below.refl _ _⟩
 case round =>
  obtain ⟨k, hk, rfl, hall, hB⟩ := hrel
  by_cases hlt : k < es.length
  ·
   obtain ⟨x, hx⟩ : ∃ x, es[k]? = some x := ⟨_, List.getElem?_eq_getElem hlt⟩
   have okx := m3 x (List.mem_of_getElem? hx)
   have hBV : Below W.heap.size W (wr.alloc (.cells #[.int .i64 x.offset, .string x.rules, .int .i64 x.save, .string x.format, .int .i64 x.until_, .string x.of] 130)) := hB.alloc hB.size _
   obtain ⟨b, o, rfl, hc⟩ := (hA1.below hB).at (i := k) (r := x.cs) (by rw [List.getElem?_map, hx]; rfl)
   have c0 : wr.cell? ⟨b, o + k * 6, none⟩ = some (.int .i64 x.offset) := hc 0 _ rfl
   have c1 := hc 1 _ rfl
   have c2 := hc 2 _ rfl
   have c3 := hc 3 _ rfl
   have c4 := hc 4 _ rfl
   have c5 := hc 5 _ rfl
   clear hc
   have y3 : wr.cell? ⟨w.heap.size + 1, 1, none⟩ = some (.slice (some ⟨b, o, none⟩) es.length cap) := by rw [(bcell hB).1 _ _ (World.block_lt_of_cell? _ _ x3)]; exact x3
   have k0 := cell_regrown ((bcell hBV).1 _ _ (World.block_lt_of_cell? _ _ x0) |>.trans x0)
   have k1 := cell_regrown ((bcell hBV).1 _ _ (World.block_lt_of_cell? _ _ x1) |>.trans x1)
   have k2 := cell_regrown ((bcell hBV).1 _ _ (World.block_lt_of_cell? _ _ x2) |>.trans x2)
   have k3 := cell_regrown ((bcell hBV).1 _ _ (World.block_lt_of_cell? _ _ x3) |>.trans x3)
   have e0 := cell_regrown (w := wr.alloc (.cells #[.int .i64 x.offset, .string x.rules, .int .i64 x.save, .string x.format, .int .i64 x.until_, .string x.of] 130)) (show _ = some (Value.int .i64 x.offset) from by first | (simp; done) | simp [go_sem] : (wr.alloc (.cells #[.int .i64 x.offset, .string x.rules, .int .i64 x.save, .string x.format, .int .i64 x.until_, .string x.of] 130)).cell? ⟨wr.heap.size, 0, none⟩ = _)
   have e1 := cell_regrown (w := wr.alloc (.cells #[.int .i64 x.offset, .string x.rules, .int .i64 x.save, .string x.format, .int .i64 x.until_, .string x.of] 130)) (show _ = some (Value.string x.rules) from by first | (simp; done) | simp [go_sem] : (wr.alloc (.cells #[.int .i64 x.offset, .string x.rules, .int .i64 x.save, .string x.format, .int .i64 x.until_, .string x.of] 130)).cell? ⟨wr.heap.size, 1, none⟩ = _)
   have e2 := cell_regrown (w := wr.alloc (.cells #[.int .i64 x.offset, .string x.rules, .int .i64 x.save, .string x.format, .int .i64 x.until_, .string x.of] 130)) (show _ = some (Value.int .i64 x.save) from by first | (simp; done) | simp [go_sem] : (wr.alloc (.cells #[.int .i64 x.offset, .string x.rules, .int .i64 x.save, .string x.format, .int .i64 x.until_, .string x.of] 130)).cell? ⟨wr.heap.size, 2, none⟩ = _)
   have e3 := cell_regrown (w := wr.alloc (.cells #[.int .i64 x.offset, .string x.rules, .int .i64 x.save, .string x.format, .int .i64 x.until_, .string x.of] 130)) (show _ = some (Value.string x.format) from by first | (simp; done) | simp [go_sem] : (wr.alloc (.cells #[.int .i64 x.offset, .string x.rules, .int .i64 x.save, .string x.format, .int .i64 x.until_, .string x.of] 130)).cell? ⟨wr.heap.size, 3, none⟩ = _)
   have e4 := cell_regrown (w := wr.alloc (.cells #[.int .i64 x.offset, .string x.rules, .int .i64 x.save, .string x.format, .int .i64 x.until_, .string x.of] 130)) (show _ = some (Value.int .i64 x.until_) from by first | (simp; done) | simp [go_sem] : (wr.alloc (.cells #[.int .i64 x.offset, .string x.rules, .int .i64 x.save, .string x.format, .int .i64 x.until_, .string x.of] 130)).cell? ⟨wr.heap.size, 4, none⟩ = _)
   have e5 := cell_regrown (w := wr.alloc (.cells #[.int .i64 x.offset, .string x.rules, .int .i64 x.save, .string x.format, .int .i64 x.until_, .string x.of] 130)) (show _ = some (Value.string x.of) from by first | (simp; done) | simp [go_sem] : (wr.alloc (.cells #[.int .i64 x.offset, .string x.rules, .int .i64 x.save, .string x.format, .int .i64 x.until_, .string x.of] 130)).cell? ⟨wr.heap.size, 5, none⟩ = _)
   have cE : ∀ dd os, Calls Tryz.prog _ _ (grow (redrawn (wr.alloc (.cells #[.int .i64 x.offset, .string x.rules, .int .i64 x.save, .string x.format, .int .i64 x.until_, .string x.of] 130)) dd) os) fun e w'' => e = .returned (.bool (eraM r.rules x)) ∧ ∃ p : Regrown, w'' = grow (redrawn (wr.alloc (.cells #[.int .i64 x.offset, .string x.rules, .int .i64 x.save, .string x.format, .int .i64 x.until_, .string x.of] 130)) p.d) p.os := fun dd os => Calls.regrown_of (spec_l02Era r _ x _ ((hv1.below hBV).below (below_regrown _ dd os)) okx (by omega))
   unfold EraD.v at cE
   go_wp2_with fail
   generalize hV : (wr.alloc (.cells #[.int .i64 x.offset, .string x.rules, .int .i64 x.save, .string x.format, .int .i64 x.until_, .string x.of] 130)) = V at *
   generalize wr.heap.size = g at *
   clear c0 c1 c2 c3 c4 c5 y3
   cases hbe : eraM r.rules x
   ·
    rw [hbe] at cE
    have HR : Hid (zb = false) := HN.out k x hx fun h => by have := h.era; rw [hbe] at this; cases this
    clear HZ HN
    refine wp_region_quiet_below (by kernel_rfl) (by kernel_rfl) ?_
    repeat (first | go_big_quiet_step ((go_at_call 81; exact cE _ _)) | quiet_step ((go_at_call 81; exact cE _ _)))
    refine wpQuiet_nil ?_
    intro _ hw'
    obtain ⟨⟨dq, osq⟩, hw''⟩ := hw'
    subst hw''
    have hb2 := below_regrown V dq osq
    go_wp2
    go_ret
    exact ⟨ret_bool HR.out.symm, hB0'.trans ((hBV.trans (hb2.mono hBV.size)).mono hB0'.size)⟩

   ·
    rw [hbe] at cE
    by_cases hk0 : k = 0
    ·
     have hk1 : decide ((0 : Int) < (k : Int)) = false := by simp; omega
     have hk3 : decide (0 < k) = false := by simp; omega
     have hk2 : Hid (k = 0) := hk0
     clear hk0
     by_cases g1 : Hid (x.until_ = 253402300799)
     ·
      have g1' : (x.until_ == 253402300799) = true := by simpa using g1.out
      by_cases g2 : Hid (k + 1 = es.length)
      ·
       have g2' : ((((k : Nat) : Int)) == ((es.length : Int) - 1)) = true := by have := g2.out; simp; omega
       cases g3 : (x.of.toList == [119])
       ·
        have g4 : Hid (x.of.toList ≠ [119]) := by simp only [Hid]; simpa using g3
        have HR : Hid (zb = false) := HN.out (k) x hx fun h => by exact g4.out (h.of g2.out)
        clear HZ HN hall
        refine wp_region_quiet_below (by kernel_rfl) (by kernel_rfl) ?_
        repeat (first | go_big_quiet_step ((go_at_call 81; exact cE _ _)) | quiet_step ((go_at_call 81; exact cE _ _)))
        refine wpQuiet_nil ?_
        intro _ hw'
        obtain ⟨⟨dq, osq⟩, hw''⟩ := hw'
        subst hw''
        have hb2 := below_regrown V dq osq
        go_wp2
        go_ret
        exact ⟨ret_bool HR.out.symm, hB0'.trans ((hBV.trans (hb2.mono hBV.size)).mono hB0'.size)⟩
       ·
        have g4 : Hid (x.of.toList = [119]) := by simp only [Hid]; simpa using g3
        have HR : Hid (∀ i, i < k + 1 → ∀ y, es[i]? = some y → StepM r.rules es i y) := fun i hi y hy => by
         by_cases e : i = k
         ·
          subst e; rw [hx] at hy; obtain rfl := Option.some.inj hy; exact ⟨hbe, fun j p hj _ => by have := hk2.out; omega, ⟨fun _ => g2.out, fun _ => g1.out⟩, fun _ => g4.out⟩
         ·
          exact hall.out i (by omega) y hy
        clear HZ HN hall
        refine wp_region_quiet_below (by kernel_rfl) (by kernel_rfl) ?_
        repeat (first | go_big_quiet_step ((go_at_call 81; exact cE _ _)) | quiet_step ((go_at_call 81; exact cE _ _)))
        refine wpQuiet_nil ?_
        intro _ hw'
        obtain ⟨⟨dq, osq⟩, hw''⟩ := hw'
        subst hw''
        have hb2 := below_regrown V dq osq
        go_wp2
        go_roundw
        case rel => exact ⟨k + 1, by omega, by go_num, HR, hBV.trans (hb2.mono hBV.size)⟩
        case measure => simp [intOf]; omega
      ·
       have g2' : ((((k : Nat) : Int)) == ((es.length : Int) - 1)) = false := by have g2n : ¬ (k + 1 = es.length) := fun h => g2 h; simp; omega
       have HR : Hid (zb = false) := HN.out (k) x hx fun h => by exact g2 (h.last.mp g1.out)
       clear HZ HN hall
       refine wp_region_quiet_below (by kernel_rfl) (by kernel_rfl) ?_
       repeat (first | go_big_quiet_step ((go_at_call 81; exact cE _ _)) | quiet_step ((go_at_call 81; exact cE _ _)))
       refine wpQuiet_nil ?_
       intro _ hw'
       obtain ⟨⟨dq, osq⟩, hw''⟩ := hw'
       subst hw''
       have hb2 := below_regrown V dq osq
       go_wp2
       go_ret
       exact ⟨ret_bool HR.out.symm, hB0'.trans ((hBV.trans (hb2.mono hBV.size)).mono hB0'.size)⟩
     ·
      have g1' : (x.until_ == 253402300799) = false := by simp; exact fun h => g1 h
      by_cases g2 : Hid (k + 1 = es.length)
      ·
       have g2' : ((((k : Nat) : Int)) == ((es.length : Int) - 1)) = true := by have := g2.out; simp; omega
       have HR : Hid (zb = false) := HN.out (k) x hx fun h => by exact g1 (h.last.mpr g2.out)
       clear HZ HN hall
       refine wp_region_quiet_below (by kernel_rfl) (by kernel_rfl) ?_
       repeat (first | go_big_quiet_step ((go_at_call 81; exact cE _ _)) | quiet_step ((go_at_call 81; exact cE _ _)))
       refine wpQuiet_nil ?_
       intro _ hw'
       obtain ⟨⟨dq, osq⟩, hw''⟩ := hw'
       subst hw''
       have hb2 := below_regrown V dq osq
       go_wp2
       go_ret
       exact ⟨ret_bool HR.out.symm, hB0'.trans ((hBV.trans (hb2.mono hBV.size)).mono hB0'.size)⟩
      ·
       have g2' : ((((k : Nat) : Int)) == ((es.length : Int) - 1)) = false := by have g2n : ¬ (k + 1 = es.length) := fun h => g2 h; simp; omega
       have HR : Hid (∀ i, i < k + 1 → ∀ y, es[i]? = some y → StepM r.rules es i y) := fun i hi y hy => by
        by_cases e : i = k
        ·
         subst e; rw [hx] at hy; obtain rfl := Option.some.inj hy; exact ⟨hbe, fun j p hj _ => by have := hk2.out; omega, ⟨fun h => absurd h g1, fun h => absurd h g2⟩, fun h => absurd h g2⟩
        ·
         exact hall.out i (by omega) y hy
       clear HZ HN hall
       refine wp_region_quiet_below (by kernel_rfl) (by kernel_rfl) ?_
       repeat (first | go_big_quiet_step ((go_at_call 81; exact cE _ _)) | quiet_step ((go_at_call 81; exact cE _ _)))
       refine wpQuiet_nil ?_
       intro _ hw'
       obtain ⟨⟨dq, osq⟩, hw''⟩ := hw'
       subst hw''
       have hb2 := below_regrown V dq osq
       go_wp2
       go_roundw
       case rel => exact ⟨k + 1, by omega, by go_num, HR, hBV.trans (hb2.mono hBV.size)⟩
       case measure => simp [intOf]; omega

    ·
     obtain ⟨j, rfl⟩ : ∃ j, k = j + 1 := ⟨k - 1, by omega⟩
     obtain ⟨q, hq⟩ : ∃ q, es[j]? = some q := ⟨_, List.getElem?_eq_getElem (by omega)⟩
     obtain ⟨b', o', he, hd⟩ := (hA1.below hBV).at (i := j) (r := q.cs) (by rw [List.getElem?_map, hq]; rfl)
     injection he with he
     injection he with u1 u2
     subst u1 u2
     have p4 := cell_regrown (hd 4 _ rfl)
     clear hd
     by_cases hu : q.until_ < x.until_
     ·
      have hu' : decide (x.until_ ≤ q.until_) = false := by simpa using hu
      by_cases g1 : Hid (x.until_ = 253402300799)
      ·
       have g1' : (x.until_ == 253402300799) = true := by simpa using g1.out
       by_cases g2 : Hid (j + 1 + 1 = es.length)
       ·
        have g2' : ((((j + 1 : Nat) : Int)) == ((es.length : Int) - 1)) = true := by have := g2.out; simp; omega
        have g5 : (((j : Int) + 1) == ((es.length : Int) - 1)) = true := by have := g2.out; simp; omega
        cases g3 : (x.of.toList == [119])
        ·
         have g4 : Hid (x.of.toList ≠ [119]) := by simp only [Hid]; simpa using g3
         have HR : Hid (zb = false) := HN.out (j + 1) x hx fun h => by exact g4.out (h.of g2.out)
         clear HZ HN hall
         refine wp_region_quiet_below (by kernel_rfl) (by kernel_rfl) ?_
         repeat (first | go_big_quiet_step ((go_at_call 81; exact cE _ _)) | quiet_step ((go_at_call 81; exact cE _ _)))
         refine wpQuiet_nil ?_
         intro _ hw'
         obtain ⟨⟨dq, osq⟩, hw''⟩ := hw'
         subst hw''
         have hb2 := below_regrown V dq osq
         go_wp2
         go_ret
         exact ⟨ret_bool HR.out.symm, hB0'.trans ((hBV.trans (hb2.mono hBV.size)).mono hB0'.size)⟩
        ·
         have g4 : Hid (x.of.toList = [119]) := by simp only [Hid]; simpa using g3
         have HR : Hid (∀ i, i < j + 1 + 1 → ∀ y, es[i]? = some y → StepM r.rules es i y) := fun i hi y hy => by
          by_cases e : i = j + 1
          ·
           subst e; rw [hx] at hy; obtain rfl := Option.some.inj hy; exact ⟨hbe, fun i p hi hp => by obtain rfl : i = j := (by omega); rw [hq] at hp; obtain rfl := Option.some.inj hp; exact hu, ⟨fun _ => g2.out, fun _ => g1.out⟩, fun _ => g4.out⟩
          ·
           exact hall.out i (by omega) y hy
         clear HZ HN hall
         refine wp_region_quiet_below (by kernel_rfl) (by kernel_rfl) ?_
         repeat (first | go_big_quiet_step ((go_at_call 81; exact cE _ _)) | quiet_step ((go_at_call 81; exact cE _ _)))
         refine wpQuiet_nil ?_
         intro _ hw'
         obtain ⟨⟨dq, osq⟩, hw''⟩ := hw'
         subst hw''
         have hb2 := below_regrown V dq osq
         go_wp2
         go_roundw
         case rel => exact ⟨j + 1 + 1, by omega, by go_num, HR, hBV.trans (hb2.mono hBV.size)⟩
         case measure => simp [intOf]; omega
       ·
        have g2' : ((((j + 1 : Nat) : Int)) == ((es.length : Int) - 1)) = false := by have g2n : ¬ (j + 1 + 1 = es.length) := fun h => g2 h; simp; omega
        have g5 : (((j : Int) + 1) == ((es.length : Int) - 1)) = false := by have g2n : ¬ (j + 1 + 1 = es.length) := fun h => g2 h; simp; omega
        have HR : Hid (zb = false) := HN.out (j + 1) x hx fun h => by exact g2 (h.last.mp g1.out)
        clear HZ HN hall
        refine wp_region_quiet_below (by kernel_rfl) (by kernel_rfl) ?_
        repeat (first | go_big_quiet_step ((go_at_call 81; exact cE _ _)) | quiet_step ((go_at_call 81; exact cE _ _)))
        refine wpQuiet_nil ?_
        intro _ hw'
        obtain ⟨⟨dq, osq⟩, hw''⟩ := hw'
        subst hw''
        have hb2 := below_regrown V dq osq
        go_wp2
        go_ret
        exact ⟨ret_bool HR.out.symm, hB0'.trans ((hBV.trans (hb2.mono hBV.size)).mono hB0'.size)⟩
      ·
       have g1' : (x.until_ == 253402300799) = false := by simp; exact fun h => g1 h
       by_cases g2 : Hid (j + 1 + 1 = es.length)
       ·
        have g2' : ((((j + 1 : Nat) : Int)) == ((es.length : Int) - 1)) = true := by have := g2.out; simp; omega
        have g5 : (((j : Int) + 1) == ((es.length : Int) - 1)) = true := by have := g2.out; simp; omega
        have HR : Hid (zb = false) := HN.out (j + 1) x hx fun h => by exact g1 (h.last.mpr g2.out)
        clear HZ HN hall
        refine wp_region_quiet_below (by kernel_rfl) (by kernel_rfl) ?_
        repeat (first | go_big_quiet_step ((go_at_call 81; exact cE _ _)) | quiet_step ((go_at_call 81; exact cE _ _)))
        refine wpQuiet_nil ?_
        intro _ hw'
        obtain ⟨⟨dq, osq⟩, hw''⟩ := hw'
        subst hw''
        have hb2 := below_regrown V dq osq
        go_wp2
        go_ret
        exact ⟨ret_bool HR.out.symm, hB0'.trans ((hBV.trans (hb2.mono hBV.size)).mono hB0'.size)⟩
       ·
        have g2' : ((((j + 1 : Nat) : Int)) == ((es.length : Int) - 1)) = false := by have g2n : ¬ (j + 1 + 1 = es.length) := fun h => g2 h; simp; omega
        have g5 : (((j : Int) + 1) == ((es.length : Int) - 1)) = false := by have g2n : ¬ (j + 1 + 1 = es.length) := fun h => g2 h; simp; omega
        have HR : Hid (∀ i, i < j + 1 + 1 → ∀ y, es[i]? = some y → StepM r.rules es i y) := fun i hi y hy => by
         by_cases e : i = j + 1
         ·
          subst e; rw [hx] at hy; obtain rfl := Option.some.inj hy; exact ⟨hbe, fun i p hi hp => by obtain rfl : i = j := (by omega); rw [hq] at hp; obtain rfl := Option.some.inj hp; exact hu, ⟨fun h => absurd h g1, fun h => absurd h g2⟩, fun h => absurd h g2⟩
         ·
          exact hall.out i (by omega) y hy
        clear HZ HN hall
        refine wp_region_quiet_below (by kernel_rfl) (by kernel_rfl) ?_
        repeat (first | go_big_quiet_step ((go_at_call 81; exact cE _ _)) | quiet_step ((go_at_call 81; exact cE _ _)))
        refine wpQuiet_nil ?_
        intro _ hw'
        obtain ⟨⟨dq, osq⟩, hw''⟩ := hw'
        subst hw''
        have hb2 := below_regrown V dq osq
        go_wp2
        go_roundw
        case rel => exact ⟨j + 1 + 1, by omega, by go_num, HR, hBV.trans (hb2.mono hBV.size)⟩
        case measure => simp [intOf]; omega

     ·
      have hu' : decide (x.until_ ≤ q.until_) = true := by simpa using hu
      have HR : Hid (zb = false) := HN.out (j + 1) x hx fun h => by exact hu (h.up j q rfl hq)
      clear HZ HN hall
      refine wp_region_quiet_below (by kernel_rfl) (by kernel_rfl) ?_
      repeat (first | go_big_quiet_step ((go_at_call 81; exact cE _ _)) | quiet_step ((go_at_call 81; exact cE _ _)))
      refine wpQuiet_nil ?_
      intro _ hw'
      obtain ⟨⟨dq, osq⟩, hw''⟩ := hw'
      subst hw''
      have hb2 := below_regrown V dq osq
      go_wp2
      go_ret
      exact ⟨ret_bool HR.out.symm, hB0'.trans ((hBV.trans (hb2.mono hBV.size)).mono hB0'.size)⟩

  ·
   have e : k = es.length := by omega
   subst e
   have HR : Hid (zb = true) := HZ.out fun j y hy => hall.out j (List.getElem?_eq_some_iff.mp hy).1 y hy
   go_wp2
   go_ret
   exact ⟨ret_bool HR.out.symm, hB0'.trans (hB.mono hB0'.size)⟩
end Go.Proofs.YtcelbkmnbjcjhaaGreat
namespace Go.Proofs.YtcelbkmnbjcjhaaGreat
open Go.RowKit

/-- none of a list is among those ahead of it. -/
theorem nodup_ahead (l : List (List UInt8)) : (∀ (k : Nat) x, l[k]? = some x → ¬ x ∈ l.take k) ↔ l.Nodup := by
 rw [List.nodup_iff_pairwise_ne, List.pairwise_iff_getElem]
 constructor
 ·
  intro h i j hi hj hij he
  refine h j l[j] (List.getElem?_eq_getElem hj) ?_
  rw [← he]
  exact List.mem_take_iff_getElem.mpr ⟨i, by omega, rfl⟩
 ·
  intro h k x hk hm
  obtain ⟨hk1, rfl⟩ := List.getElem?_eq_some_iff.mp hk
  obtain ⟨i, hi, he⟩ := List.mem_take_iff_getElem.mp hm
  exact h i k (by omega) hk1 (by omega) he
/-- the names of zones and links. -/
def namesL (r : RelD) : List ByteArray := r.zones.map ZoneD.name ++ r.links.map LinkD.name
def keysL (l : List ByteArray) : List (List UInt8) := l.map (·.data.toList)
def namesB (r : RelD) : Bool := decide (keysL (namesL r)).Nodup
set_option maxRecDepth 100000 in
theorem infoStr : ∃ i : TypeInfo, Tryz.prog.info? 9 = some i ∧ i.zero = some (.string ⟨#[]⟩) ∧ i.size = 1 ∧ i.bytes = 16 := ⟨_, rfl, rfl, rfl, rfl⟩
theorem ownR_empty (w : World) (t : TypeId) : (w.alloc (.cells #[] t)).ownsRow w.heap.size t 1 (.slice (some ⟨w.heap.size, 0, none⟩) 0 0) 0 [] :=
 ⟨rfl, .inr ⟨w.heap.size, 0, #[], rfl, Nat.le_refl _, (MapKept.heap_alloc w _).1, Nat.le_refl _, by unfold maxLen; omega, rfl, rfl⟩⟩
theorem ownR_blk {w : World} {base : Nat} {e : TypeId} {size : Nat} {v : Value} {n : Nat} {xs : List Value} (h : w.ownsRow base e size v n xs) : ∀ k, v.ownBlock = some k → base ≤ k := by
 intro k hk
 rcases h.2 with ⟨rfl, _⟩ | ⟨g, cap, cur, rfl, hg, _⟩
 ·
  cases hk
 ·
  simp [Value.ownBlock] at hk; omega
theorem takeN_succ {l : List ByteArray} {k : Nat} {x : ByteArray} (h : l[k]? = some x) : (l.take (k + 1)).map Value.string = (l.take k).map Value.string ++ [.string x] := by
 rw [List.take_add_one, h]; simp
end Go.Proofs.YtcelbkmnbjcjhaaGreat
namespace Go.Proofs.YtcelbkmnbjcjhaaGreat
open Go.RowKit

def relB (r : RelD) : Bool := decide (r.rules.length ≤ 40 ∧ r.zones.length ≤ 12 ∧ r.links.length ≤ 20) && (r.rules.all ruleB && (r.zones.all zoneP && (r.links.all linkB && (namesB r && ((r.zones.all fun z => z.eras.all (thereB r.rules)) && (r.links.all fun x => hasZ r.zones x.to_))))))
theorem rel_no0 {r : RelD} (h : ¬ (r.rules.length ≤ 40 ∧ r.zones.length ≤ 12 ∧ r.links.length ≤ 20)) : relB r = false := by unfold relB; rw [decide_eq_false h]; rfl
theorem rel_no1 {r : RelD} (h : r.rules.all ruleB = false) : relB r = false := by unfold relB; rw [h]; simp
theorem rel_yes {r : RelD} (h0 : r.rules.length ≤ 40 ∧ r.zones.length ≤ 12 ∧ r.links.length ≤ 20) (h1 : r.rules.all ruleB = true) (h2 : r.zones.all zoneP = true) (h3 : r.links.all linkB = true) (h4 : namesB r = true) (h5 : (r.zones.all fun z => z.eras.all (thereB r.rules)) = true) (h6 : (r.links.all fun x => hasZ r.zones x.to_) = true) : relB r = true := by unfold relB; rw [decide_eq_true h0, h1, h2, h3, h4, h5, h6]; rfl
end Go.Proofs.YtcelbkmnbjcjhaaGreat
namespace Go.Proofs.YtcelbkmnbjcjhaaGreat
open Go.RowKit

end Go.Proofs.YtcelbkmnbjcjhaaGreat
namespace Go.Proofs.YtcelbkmnbjcjhaaGreat
open Go.RowKit

theorem ownR_below {w w' : World} {base : Nat} {e : TypeId} {size : Nat} {v : Value} {n : Nat} {xs : List Value} (h : w.ownsRow base e size v n xs) (hb : Below w.heap.size w w') : w'.ownsRow base e size v n xs := by
 refine ⟨h.1, ?_⟩
 rcases h.2 with h2 | ⟨g, cap, cur, hv, hg, hh, rest⟩
 ·
  exact .inl h2
 ·
  refine .inr ⟨g, cap, cur, hv, hg, ?_, rest⟩
  rw [hb.block g (by
   rcases Nat.lt_or_ge g w.heap.size with h' | h'
   ·
    exact h'
   ·
    rw [Array.getElem?_eq_none h'] at hh; cases hh)]
  exact hh
theorem ownR_some {w : World} {base : Nat} {e : TypeId} {size : Nat} {v : Value} {n : Nat} {xs : List Value} (h : w.ownsRow base e size v n xs) (hn : 0 < n) : ∃ g cap, v = .slice (some ⟨g, 0, none⟩) n cap := by
 rcases h.2 with ⟨_, h0⟩ | ⟨g, cap, _, hv, _⟩
 ·
  omega
 ·
  exact ⟨g, cap, hv⟩
theorem ownR_strs {w : World} {base : Nat} {e : TypeId} {g cap n : Nat} {ss : List ByteArray} (h : w.ownsRow base e 1 (.slice (some ⟨g, 0, none⟩) n cap) n (ss.map Value.string)) : StrsAt w (some ⟨g, 0, none⟩) ss ∧ n ≤ cap ∧ ss.length = n := by
 have hl : ss.length = n := by simpa using h.1
 rcases h.2 with ⟨h0, _⟩ | ⟨g', cap', cur, hv, hg, hh, hc, hm, hs, ht⟩
 ·
  cases h0
 ·
  injection hv with h1 _ h3
  injection h1 with h1
  injection h1 with h1
  subst h1 h3
  refine ⟨.inr ⟨g, 0, rfl, fun i s hi => ?_⟩, hc, hl⟩
  have hil := (List.getElem?_eq_some_iff.mp hi).1
  have e1 : (cur.toList.take (n * 1))[i]? = (ss.map Value.string)[i]? := by rw [ht]
  rw [List.getElem?_take, if_pos (by omega), Array.getElem?_toList, List.getElem?_map, hi] at e1
  simp only [World.cell?, hh, Nat.zero_add]
  simp only [Option.isSome_none, Bool.false_eq_true, if_false]
  exact e1
theorem inB_iff {ss : List ByteArray} {t : ByteArray} : inB ss t = true ↔ t.data.toList ∈ keysL ss := by
 unfold inB keysL
 rw [List.any_eq_true, List.mem_map]
 constructor
 ·
  rintro ⟨x, hx, he⟩
  exact ⟨x, hx, by rw [beq_iff_eq, ByteArray.toList_eq, ByteArray.toList_eq] at he; exact he⟩
 ·
  rintro ⟨x, hx, he⟩
  exact ⟨x, hx, by rw [beq_iff_eq, ByteArray.toList_eq, ByteArray.toList_eq]; exact he⟩
theorem inB_hasZ {zs : List ZoneD} {t : ByteArray} : inB (zs.map ZoneD.name) t = hasZ zs t := by
 unfold inB hasZ
 rw [List.any_map]
 rfl
structure RelT (r : RelD) : Prop where
 lens : r.rules.length ≤ 40 ∧ r.zones.length ≤ 12 ∧ r.links.length ≤ 20
 rules : r.rules.all ruleB = true
 zones : r.zones.all zoneP = true
 links : r.links.all linkB = true
 names : namesB r = true
 there : (r.zones.all fun z => z.eras.all (thereB r.rules)) = true
 has : (r.links.all fun x => hasZ r.zones x.to_) = true
theorem rel_of {r : RelD} (h : relB r = true) : RelT r := by
 unfold relB at h
 simp only [Bool.and_eq_true, decide_eq_true_eq] at h
 obtain ⟨h0, h1, h2, h3, h4, h5, h6⟩ := h
 exact ⟨h0, h1, h2, h3, h4, h5, h6⟩
theorem rel_false {r : RelD} (h : RelT r → False) : relB r = false := by
 cases hb : relB r
 ·
  rfl
 ·
  exact (h (rel_of hb)).elim
theorem rel_rule {r : RelD} {k : Nat} {x : RuleD} (hk : r.rules[k]? = some x) (h : ruleB x = false) : relB r = false := rel_no1 (all_no hk h)
theorem rel_zone {r : RelD} {k : Nat} {z : ZoneD} (hk : r.zones[k]? = some z) (h : zoneMB r.rules z = false) : relB r = false := rel_false fun t => by
 have := (zones_same t.rules).mp ⟨t.zones, t.there⟩ z (List.mem_of_getElem? hk)
 rw [zoneM_yes this] at h; cases h
theorem rel_link {r : RelD} {k : Nat} {x : LinkD} (hk : r.links[k]? = some x) (h : nameB x.name = false ∨ inB (r.zones.map ZoneD.name) x.to_ = false) : relB r = false := rel_false fun t => by
 have h1 := List.all_eq_true.mp t.links x (List.mem_of_getElem? hk)
 have h2 := List.all_eq_true.mp t.has x (List.mem_of_getElem? hk)
 unfold linkB at h1
 simp only [Bool.and_eq_true] at h1
 rcases h with h | h
 ·
  rw [h1.2] at h; cases h
 ·
  rw [inB_hasZ, h2] at h; cases h
theorem keysL_take (l : List ByteArray) (k : Nat) : keysL (l.take k) = (keysL l).take k := by unfold keysL; rw [List.map_take]
theorem rel_dup {r : RelD} {k : Nat} {x : ByteArray} (hk : (namesL r)[k]? = some x) (h : inB ((namesL r).take k) x = true) : relB r = false := rel_false fun t => by
 have hn : (keysL (namesL r)).Nodup := by have := t.names; unfold namesB at this; exact of_decide_eq_true this
 rw [inB_iff, keysL_take] at h
 exact (nodup_ahead _).mpr hn k x.data.toList (by unfold keysL; rw [List.getElem?_map, hk]; rfl) h
theorem rel_all {r : RelD} (h0 : r.rules.length ≤ 40 ∧ r.zones.length ≤ 12 ∧ r.links.length ≤ 20) (h1 : ∀ (k : Nat) x, r.rules[k]? = some x → ruleB x = true) (h2 : ∀ (k : Nat) z, r.zones[k]? = some z → zoneMB r.rules z = true)
  (h3 : ∀ (k : Nat) x, r.links[k]? = some x → nameB x.name = true ∧ inB (r.zones.map ZoneD.name) x.to_ = true) (h4 : ∀ (k : Nat) x, (namesL r)[k]? = some x → inB ((namesL r).take k) x = false) : relB r = true := by
 have k1 : r.rules.all ruleB = true := all_yes fun j _ x hx => h1 j x hx
 have kz : ∀ z ∈ r.zones, ZoneM r.rules z := fun z hz => by
  obtain ⟨k, hk⟩ := List.getElem?_of_mem hz
  exact zoneMB_iff.mp (h2 k z hk)
 obtain ⟨k2, k5⟩ := (zones_same k1).mpr kz
 obtain ⟨k3, k6⟩ := (links_same (ls := r.links) fun z hz => (kz z hz).name).mpr fun x hx => by
  obtain ⟨k, hk⟩ := List.getElem?_of_mem hx
  have := h3 k x hk
  rw [inB_hasZ] at this
  exact this
 refine rel_yes h0 k1 k2 k3 ?_ k5 k6
 unfold namesB
 refine decide_eq_true ((nodup_ahead _).mp fun k x hk hm => ?_)
 unfold keysL at hk
 rw [List.getElem?_map] at hk
 obtain ⟨y, hy, rfl⟩ := Option.map_eq_some_iff.mp hk
 have := h4 k y hy
 rw [← keysL_take, ← inB_iff] at hm
 rw [this] at hm; cases hm
end Go.Proofs.YtcelbkmnbjcjhaaGreat
namespace Go.Proofs.YtcelbkmnbjcjhaaGreat
open Go.RowKit Go.Sort

set_option maxRecDepth 100000 in
set_option maxHeartbeats 8000000 in
theorem spec_ReleaseRight (r : RelD) (v : Value) (w : World) (hv : RelAt w v r) (ok : r.ok) (sm : r.small) (hon : ∀ x ∈ r.rules, x.on.size ≤ 1048576) :
  Calls Tryz.prog 59 #[v] w fun e w' => e = .returned (.bool (relB r)) ∧ Below w.heap.size w w' := by
 obtain ⟨a, b, c, ca, cb, cc, hvv, hAr, hAz, hAl⟩ := hv.form
 obtain ⟨⟨p1, p2⟩, ⟨q1, q2⟩, ⟨s1, s2⟩⟩ := ok
 obtain ⟨m1, m2, m3, m4⟩ := sm
 obtain ⟨i0, hi, hz0, hz1, hz2⟩ := infoStr
 have hB0 := (Below.refl w.heap.size w).alloc (Nat.le_refl _) (.cells #[.slice a r.rules.length ca, .slice b r.zones.length cb, .slice c r.links.length cc] 90)
 have N0 := @rel_no0 r
 have HN1 : Hid (∀ (k : Nat) (x : RuleD), r.rules[k]? = some x → ruleB x = false → relB r = false) := fun k x h1 h2 => rel_rule h1 h2
 have HN2 : Hid (∀ (k : Nat) (z : ZoneD), r.zones[k]? = some z → zoneMB r.rules z = false → relB r = false) := fun k x h1 h2 => rel_zone h1 h2
 have HN3 : Hid (∀ (k : Nat) (x : LinkD), r.links[k]? = some x → (nameB x.name = false ∨ inB (r.zones.map ZoneD.name) x.to_ = false) → relB r = false) := fun k x h1 h2 => rel_link h1 h2
 have HN4 : Hid (∀ (k : Nat) (x : ByteArray), (r.zones.map ZoneD.name ++ r.links.map LinkD.name)[k]? = some x → inB ((r.zones.map ZoneD.name ++ r.links.map LinkD.name).take k) x = true → relB r = false) := fun k x h1 h2 => rel_dup h1 h2
 have HY : Hid ((r.rules.length ≤ 40 ∧ r.zones.length ≤ 12 ∧ r.links.length ≤ 20) → (∀ (k : Nat) x, r.rules[k]? = some x → ruleB x = true) → (∀ (k : Nat) z, r.zones[k]? = some z → zoneMB r.rules z = true) →
  (∀ (k : Nat) x, r.links[k]? = some x → nameB x.name = true ∧ inB (r.zones.map ZoneD.name) x.to_ = true) → (∀ (k : Nat) x, (r.zones.map ZoneD.name ++ r.links.map LinkD.name)[k]? = some x → inB ((r.zones.map ZoneD.name ++ r.links.map LinkD.name).take k) x = false) → relB r = true) := fun h0 h1 h2 h3 h4 => rel_all h0 h1 h2 h3 h4
 generalize relB r = rb at *
 subst hvv
 by_cases g40 : 40 < r.rules.length
 ·
  have HR : Hid (rb = false) := N0 (by omega)
  clear N0 HN1 HN2 HN3 HN4 HY
  go_enter Tryz.func59, Tryz.ntmps59
  go_wp2
  go_ret
  exact ⟨ret_bool HR.out.symm, hB0⟩
 by_cases g12 : 12 < r.zones.length
 ·
  have HR : Hid (rb = false) := N0 (by omega)
  clear N0 HN1 HN2 HN3 HN4 HY
  go_enter Tryz.func59, Tryz.ntmps59
  go_wp2
  go_ret
  exact ⟨ret_bool HR.out.symm, hB0⟩
 by_cases g20 : 20 < r.links.length
 ·
  have HR : Hid (rb = false) := N0 (by omega)
  clear N0 HN1 HN2 HN3 HN4 HY
  go_enter Tryz.func59, Tryz.ntmps59
  go_wp2
  go_ret
  exact ⟨ret_bool HR.out.symm, hB0⟩
 clear N0
 have x0 : (w.alloc (.cells #[.slice a r.rules.length ca, .slice b r.zones.length cb, .slice c r.links.length cc] 90)).cell? ⟨w.heap.size, 0, none⟩ = some (.slice a r.rules.length ca) := by simp [go_sem]
 have y0 : (w.alloc (.cells #[.slice a r.rules.length ca, .slice b r.zones.length cb, .slice c r.links.length cc] 90)).cell? ⟨w.heap.size, 1, none⟩ = some (.slice b r.zones.length cb) := by simp [go_sem]
 have z0 : (w.alloc (.cells #[.slice a r.rules.length ca, .slice b r.zones.length cb, .slice c r.links.length cc] 90)).cell? ⟨w.heap.size, 2, none⟩ = some (.slice c r.links.length cc) := by simp [go_sem]
 have HL : Hid (r.rules.length ≤ 40 ∧ r.zones.length ≤ 12 ∧ r.links.length ≤ 20) := by simp only [Hid]; omega
 have hO0 := ownR_empty (w.alloc (.cells #[.slice a r.rules.length ca, .slice b r.zones.length cb, .slice c r.links.length cc] 90)) 9
 have hb00 := (Below.refl (w.alloc (.cells #[.slice a r.rules.length ca, .slice b r.zones.length cb, .slice c r.links.length cc] 90)).heap.size (w.alloc (.cells #[.slice a r.rules.length ca, .slice b r.zones.length cb, .slice c r.links.length cc] 90))).alloc (Nat.le_refl _) (.cells #[] 9)
 have hAr1 := hAr.below hB0
 have hAz1 := hAz.below hB0
 have hAl1 := hAl.below hB0
 have hv1 := hv.below hB0
 clear hAr hAz hAl hv
 have hW0 : Hid ((w.alloc (.cells #[.slice a r.rules.length ca, .slice b r.zones.length cb, .slice c r.links.length cc] 90)).heap.size = w.heap.size + 1) := by simp [Hid]
 go_enter Tryz.func59, Tryz.ntmps59
 go_wp2
 generalize hW : (w.alloc (.cells #[.slice a r.rules.length ca, .slice b r.zones.length cb, .slice c r.links.length cc] 90)) = W at *
 generalize hW1 : W.alloc (.cells #[] 9) = W1 at *
 go_loopw [4] (fun i wr => ∃ k : Nat, k ≤ r.rules.length ∧ i = .int .i64 k ∧ Hid (∀ j, j < k → ∀ x, r.rules[j]? = some x → ruleB x = true) ∧ Below W1.heap.size W1 wr) (fun i _ => r.rules.length - (intOf i).toNat)
 case atStart => exact ⟨0, by omega, rfl, fun j hj => by omega, by subst hW1; exact Below.refl _ _⟩
 case round =>
  obtain ⟨k, hk, rfl, hall, hB1⟩ := hrel
  have hB := hb00.trans (hB1.mono hb00.size)
  have hBB := hB0.trans (hB.mono hB0.size)
  have x1 := ((bcell hB).1 _ _ (World.block_lt_of_cell? _ _ x0)).trans x0
  have y1 := ((bcell hB).1 _ _ (World.block_lt_of_cell? _ _ y0)).trans y0
  have z1 := ((bcell hB).1 _ _ (World.block_lt_of_cell? _ _ z0)).trans z0
  by_cases hlt : k < r.rules.length
  ·
   obtain ⟨x, hx⟩ : ∃ x, r.rules[k]? = some x := ⟨_, List.getElem?_eq_getElem hlt⟩
   obtain ⟨b', o, rfl, hc⟩ := (hAr1.below hB).at (i := k) (r := x.cs) (by rw [List.getElem?_map, hx]; rfl)
   have hS := fun w => spec_l02Rule x w (p2 x (List.mem_of_getElem? hx)) (hon x (List.mem_of_getElem? hx))
   have c0 : wr.cell? ⟨b', o + k * 9, none⟩ = some (.string x.name) := hc 0 _ rfl
   have c1 := hc 1 _ rfl
   have c2 := hc 2 _ rfl
   have c3 := hc 3 _ rfl
   have c4 := hc 4 _ rfl
   have c5 := hc 5 _ rfl
   have c6 := hc 6 _ rfl
   have c7 := hc 7 _ rfl
   have c8 := hc 8 _ rfl
   clear hc
   unfold RuleD.v at hS
   cases hb : ruleB x
   ·
    have HR : Hid (rb = false) := HN1.out k x hx hb
    rw [hb] at hS
    clear hb HN1 HN2 HN3 HN4 HY
    go_wp2_with fail
    refine (hS _).mono ?_
    rintro e w2 ⟨rfl, hb2⟩
    go_wp2
    go_ret
    exact ⟨ret_bool HR.out.symm, hBB.trans (hb2.mono hBB.size)⟩
   ·
    have HR : Hid (∀ j, j < k + 1 → ∀ x, r.rules[j]? = some x → ruleB x = true) := fun j hj y hy => by
     by_cases e : j = k
     ·
      subst e; rw [hx] at hy; obtain rfl := Option.some.inj hy; exact hb
     ·
      exact hall.out j (by omega) y hy
    rw [hb] at hS
    clear hb
    go_wp2_with fail
    refine (hS _).mono ?_
    rintro e w2 ⟨rfl, hb2⟩
    go_wp2
    go_roundw
    case rel => exact ⟨k + 1, by omega, by go_num, HR, hB1.trans (hb2.mono hB1.size)⟩
    case measure => simp [intOf]; omega
  ·
   have e : k = r.rules.length := by omega
   subst e
   have H1 : Hid (∀ (k : Nat) x, r.rules[k]? = some x → ruleB x = true) := fun j x hx => hall.out j (List.getElem?_eq_some_iff.mp hx).1 x hx
   have hO1 := ownR_below hO0 hB1
   clear hall HN1
   go_wp2
   obtain ⟨wo, rfl⟩ : ∃ wo : World, wo = wr := ⟨_, rfl⟩
   go_loopw [3, 5] (fun s i wr => ∃ k : Nat, k ≤ r.zones.length ∧ i = .int .i64 k ∧ (∃ g cap, s = .slice (some ⟨g, 0, none⟩) k cap) ∧ wr.ownsRow W.heap.size 9 1 s k (((r.zones.map ZoneD.name).take k).map Value.string) ∧ Hid (∀ j, j < k → ∀ x, r.zones[j]? = some x → zoneMB r.rules x = true) ∧ Below W.heap.size W wr) (fun _ i _ => r.zones.length - (intOf i).toNat)
   case atStart => exact ⟨0, by omega, rfl, ⟨_, _, rfl⟩, by rw [← hW0.out]; exact hO1, fun j hj => by omega, hB⟩
   case round =>
    clear hO1 hO0 hB hBB x1 y1 z1 hB1
    obtain ⟨k, hk, rfl, hform, hO, hall, hB⟩ := hrel
    have hBB := hB0.trans (hB.mono hB0.size)
    have x1 := ((bcell hB).1 _ _ (World.block_lt_of_cell? _ _ x0)).trans x0
    have y1 := ((bcell hB).1 _ _ (World.block_lt_of_cell? _ _ y0)).trans y0
    have z1 := ((bcell hB).1 _ _ (World.block_lt_of_cell? _ _ z0)).trans z0
    by_cases hlt : k < r.zones.length
    ·
     obtain ⟨x, hx⟩ : ∃ x, r.zones[k]? = some x := ⟨_, List.getElem?_eq_getElem hlt⟩
     obtain ⟨b', o, rfl, c0, u, c1, hu⟩ := (hAz1.below hB).at hx
     have okx := q2 x (List.mem_of_getElem? hx)
     have cE : ∀ dd os, Calls Tryz.prog 68 #[.agg #[.slice a r.rules.length ca, .slice (some ⟨b', o, none⟩) r.zones.length cb, .slice c r.links.length cc], .agg #[.string x.name, u]] (grow (redrawn wr dd) os) fun e w'' => e = .returned (.bool (zoneMB r.rules x)) ∧ ∃ p : Regrown, w'' = grow (redrawn wr p.d) p.os := fun dd os => Calls.regrown_of (spec_l02Zone r _ x u _ ((hv1.below hB).below (below_regrown wr dd os)) (hu.below (below_regrown wr dd os)) okx m1)
     obtain ⟨ae, ce, rfl, _⟩ := hu
     have kx := cell_regrown x1
     have ky := cell_regrown y1
     have kz := cell_regrown z1
     have kc0 := cell_regrown c0
     have kc1 := cell_regrown c1
     cases hb : zoneMB r.rules x
     ·
      have HR : Hid (rb = false) := HN2.out k x hx hb
      rw [hb] at cE
      clear hb HN2 HN3 HN4 HY hform hO
      go_wp2_with fail
      refine wp_region_quiet_below (by kernel_rfl) (by kernel_rfl) ?_
      repeat (quiet_step ((go_at_call 68; exact cE _ _)))
      refine wpQuiet_nil ?_
      intro _ hw'
      obtain ⟨⟨dq, osq⟩, hw''⟩ := hw'
      subst hw''
      have hb2 := below_regrown wr dq osq
      go_wp2
      go_ret
      exact ⟨ret_bool HR.out.symm, hBB.trans (hb2.mono hBB.size)⟩
     ·
      have HR : Hid (∀ j, j < k + 1 → ∀ x, r.zones[j]? = some x → zoneMB r.rules x = true) := fun j hj y hy => by
       by_cases e : j = k
       ·
        subst e; rw [hx] at hy; obtain rfl := Option.some.inj hy; exact hb
       ·
        exact hall.out j (by omega) y hy
      rw [hb] at cE
      have hs := takeN_succ (l := r.zones.map ZoneD.name) (k := k) (x := x.name) (by rw [List.getElem?_map, hx]; rfl)
      have HS : Hid (((r.zones.map ZoneD.name).take (k + 1)).map Value.string = ((r.zones.map ZoneD.name).take k).map Value.string ++ [.string x.name]) := hs
      clear hs hb hform
      go_wp2_with fail
      refine wp_region_quiet_below (by kernel_rfl) (by kernel_rfl) ?_
      repeat (quiet_step ((go_at_call 68; exact cE _ _)))
      refine wpQuiet_nil ?_
      intro V hw'
      obtain ⟨⟨dq, osq⟩, hw''⟩ := hw'
      have hb2 : Below wr.heap.size wr V := hw'' ▸ below_regrown wr dq osq
      clear hw'' kx ky kz kc0 kc1 cE
      have hB2 := hB.trans (hb2.mono hB.size)
      have hO2 := ownR_below hO hb2
      have x2 := ((bcell hb2).1 _ _ (World.block_lt_of_cell? _ _ x1)).trans x1
      have y2 := ((bcell hb2).1 _ _ (World.block_lt_of_cell? _ _ y1)).trans y1
      have d0 := ((bcell hb2).1 _ _ (World.block_lt_of_cell? _ _ c0)).trans c0
      have hsz := hB2.size
      clear hb2 hO x1 y1 z1 c0 c1
      generalize ((r.zones.map ZoneD.name).take k).map Value.string = xs at *
      go_wp2_with (first
       | (at_builtin; refine wpList_append_own _ rfl _ _ 96 rfl W.heap.size 9 i0 (.string ⟨#[]⟩) 1 16 Tryz.underlying96 hi hz0 hz1 hz2 rfl (by decide) _ _ _ rfl (hO2.alloc _) ⟨V.heap.size, 0, none⟩ 1 1 [.string x.name] rfl rfl ?c1 ?c2 ?c3 ?c4 ?c5 ?_)
       | fail)
      case c2 => rfl
      case c3 => unfold maxLen; omega
      case c4 => omega
      case c5 => omega
      ·
       intro v' w3 hown' hgrow _
       have hB3 : Below W.heap.size W w3 := (hB2.alloc hsz _).grown hgrow (by simp; omega) (ownR_blk hO2)
       clear hgrow hO2
       go_wp2
       go_roundw
       case rel => exact ⟨k + 1, by omega, by go_num, ownR_some hown' (by omega), by rw [HS.out]; exact hown', HR, hB3⟩
       case measure => simp [intOf]; omega
    ·
     have e : k = r.zones.length := by omega
     subst e
     have H2 : Hid (∀ (k : Nat) x, r.zones[k]? = some x → zoneMB r.rules x = true) := fun j x hx => hall.out j (List.getElem?_eq_some_iff.mp hx).1 x hx
     obtain ⟨g0, cap0, rfl⟩ := hform
     rw [List.take_of_length_le (by simp)] at hO
     clear hall HN2
     go_wp2
     obtain ⟨wo2, rfl⟩ : ∃ wo : World, wo = wr := ⟨_, rfl⟩
     go_loopw [3, 7] (fun s i wr => ∃ k : Nat, k ≤ r.links.length ∧ i = .int .i64 k ∧ (∃ g cap, s = .slice (some ⟨g, 0, none⟩) (r.zones.length + k) cap) ∧ wr.ownsRow W.heap.size 9 1 s (r.zones.length + k) ((r.zones.map ZoneD.name ++ (r.links.map LinkD.name).take k).map Value.string) ∧ Hid (∀ j, j < k → ∀ x, r.links[j]? = some x → nameB x.name = true ∧ inB (r.zones.map ZoneD.name) x.to_ = true) ∧ Below W.heap.size W wr) (fun _ i _ => r.links.length - (intOf i).toNat)
     case atStart => exact ⟨0, by omega, rfl, ⟨_, _, rfl⟩, by simpa using hO, fun j hj => by omega, hB⟩
     case round =>
      clear hO hB hBB x1 y1 z1
      obtain ⟨k, hk, rfl, ⟨g, cap, rfl⟩, hO, hall, hB⟩ := hrel
      have hBB := hB0.trans (hB.mono hB0.size)
      have x1 := ((bcell hB).1 _ _ (World.block_lt_of_cell? _ _ x0)).trans x0
      have y1 := ((bcell hB).1 _ _ (World.block_lt_of_cell? _ _ y0)).trans y0
      have z1 := ((bcell hB).1 _ _ (World.block_lt_of_cell? _ _ z0)).trans z0
      obtain ⟨hSt, hcap, hlen⟩ := ownR_strs hO
      have hStz := hSt.take r.zones.length
      rw [List.take_append_of_le_length (by simp), List.take_of_length_le (by simp)] at hStz
      by_cases hlt : k < r.links.length
      ·
       obtain ⟨x, hx⟩ : ∃ x, r.links[k]? = some x := ⟨_, List.getElem?_eq_getElem hlt⟩
       obtain ⟨b', o, rfl, hc⟩ := (hAl1.below hB).at (i := k) (r := x.cs) (by rw [List.getElem?_map, hx]; rfl)
       have c0 : wr.cell? ⟨b', o + k * 2, none⟩ = some (.string x.to_) := hc 0 _ rfl
       have c1 := hc 1 _ rfl
       clear hc
       have okx := s2 x (List.mem_of_getElem? hx)
       have hN := fun w => spec_NameRight x.name w okx.2
       have hI := fun n => spec_l02In (r.zones.map ZoneD.name) (some ⟨g, 0, none⟩) cap x.to_ (wr.drewN n) (hStz.below (below_drewN (Below.refl _ _) n)) (by simp; omega)
       rw [List.length_map] at hI
       have j0 : (0 : Int) ≤ (r.zones.length : Int) := by omega
       have j1 : (r.zones.length : Int) ≤ (cap : Int) := by omega
       cases hb1 : nameB x.name
       ·
        have HR : Hid (rb = false) := HN3.out k x hx (.inl hb1)
        rw [hb1] at hN
        clear hb1 HN3 HN4 HY
        go_wp2_with fail
        go_quiet ((first | (go_at_call 69; exact Calls.quiet_of_same (hN _)) | (go_at_call 70; exact Calls.quiet_of_same (hI _))))
        go_wp2
        go_ret
        exact ⟨ret_bool HR.out.symm, below_drewN hBB _⟩
       ·
        rw [hb1] at hN
        cases hb2 : inB (r.zones.map ZoneD.name) x.to_
        ·
         have HR : Hid (rb = false) := HN3.out k x hx (.inr hb2)
         rw [hb2] at hI
         clear hb1 hb2 HN3 HN4 HY
         go_wp2_with fail
         go_quiet ((first | (go_at_call 69; exact Calls.quiet_of_same (hN _)) | (go_at_call 70; exact Calls.quiet_of_same (hI _))))
         go_wp2
         go_ret
         exact ⟨ret_bool HR.out.symm, below_drewN hBB _⟩
        ·
         have HR : Hid (∀ j, j < k + 1 → ∀ x, r.links[j]? = some x → nameB x.name = true ∧ inB (r.zones.map ZoneD.name) x.to_ = true) := fun j hj y hy => by
          by_cases e : j = k
          ·
           subst e; rw [hx] at hy; obtain rfl := Option.some.inj hy; exact ⟨hb1, hb2⟩
          ·
           exact hall.out j (by omega) y hy
         rw [hb2] at hI
         clear hb1 hb2
         go_wp2_with fail
         go_quiet ((first | (go_at_call 69; exact Calls.quiet_of_same (hN _)) | (go_at_call 70; exact Calls.quiet_of_same (hI _))))
         obtain ⟨V, hV⟩ : ∃ V, V = wr.drewN nq := ⟨_, rfl⟩
         rw [← hV]
         have hb2 : Below wr.heap.size wr V := hV ▸ below_drewN (Below.refl _ _) _
         clear hV hI hN hSt hStz
         have hB2 := hB.trans (hb2.mono hB.size)
         have hO2 := ownR_below hO hb2
         have z2 := ((bcell hb2).1 _ _ (World.block_lt_of_cell? _ _ z1)).trans z1
         have d1 := ((bcell hb2).1 _ _ (World.block_lt_of_cell? _ _ c1)).trans c1
         have hsz := hB2.size
         have hs := takeN_succ (l := r.links.map LinkD.name) (k := k) (x := x.name) (by rw [List.getElem?_map, hx]; rfl)
         have HS : Hid ((r.zones.map ZoneD.name ++ (r.links.map LinkD.name).take (k + 1)).map Value.string = (r.zones.map ZoneD.name ++ (r.links.map LinkD.name).take k).map Value.string ++ [.string x.name]) := by
          simp only [Hid]; rw [List.map_append, hs, ← List.append_assoc, ← List.map_append]
         clear hs hb2 hO x1 y1 z1 c0 c1 hlen
         generalize (r.zones.map ZoneD.name ++ (r.links.map LinkD.name).take k).map Value.string = xs at *
         obtain ⟨n, hn⟩ : ∃ n, n = r.zones.length + k := ⟨_, rfl⟩
         have HNN : Hid (r.zones.length + (k + 1) = n + 1) := by simp only [Hid]; omega
         have hn2 : n ≤ 2097152 := by omega
         rw [← hn] at hO2 ⊢
         clear hn
         go_wp2_with (first
          | (at_builtin; refine wpList_append_own _ rfl _ _ 96 rfl W.heap.size 9 i0 (.string ⟨#[]⟩) 1 16 Tryz.underlying96 hi hz0 hz1 hz2 rfl (by decide) _ _ _ rfl (hO2.alloc _) ⟨V.heap.size, 0, none⟩ 1 1 [.string x.name] rfl rfl ?d1 ?d2 ?d3 ?d4 ?d5 ?_)
          | fail)
         case d2 => rfl
         case d3 => unfold maxLen; omega
         case d4 => omega
         case d5 => omega
         ·
          intro v' w3 hown' hgrow _
          have hB3 : Below W.heap.size W w3 := (hB2.alloc hsz _).grown hgrow (by simp; omega) (ownR_blk hO2)
          clear hgrow hO2
          go_wp2
          go_roundw
          case rel => exact ⟨k + 1, by omega, by go_num, by rw [HNN.out]; exact ownR_some hown' (by omega), by rw [HS.out, HNN.out]; exact hown', HR, hB3⟩
          case measure => simp [intOf]; omega
      ·
       have e : k = r.links.length := by omega
       subst e
       have H3 : Hid (∀ (k : Nat) x, r.links[k]? = some x → nameB x.name = true ∧ inB (r.zones.map ZoneD.name) x.to_ = true) := fun j x hx => hall.out j (List.getElem?_eq_some_iff.mp hx).1 x hx
       have HYY : Hid ((∀ (k : Nat) x, (r.zones.map ZoneD.name ++ r.links.map LinkD.name)[k]? = some x → inB ((r.zones.map ZoneD.name ++ r.links.map LinkD.name).take k) x = false) → rb = true) := fun h4 => HY.out HL.out H1.out H2.out H3.out h4
       rw [List.take_of_length_le (by simp)] at hSt hlen
       clear hall HN3 HY HL H1 H2 H3 hStz hO hW0 hW1
       generalize r.zones.map ZoneD.name ++ r.links.map LinkD.name = ns at *
       have hn2 : ns.length ≤ 1048576 := by omega
       rw [← hlen]
       rw [← hlen] at hcap
       clear hlen
       go_wp2
       obtain ⟨wo3, rfl⟩ : ∃ wo : World, wo = wr := ⟨_, rfl⟩
       go_loopw [8] (fun i wr => ∃ k : Nat, k ≤ ns.length ∧ i = .int .i64 k ∧ Hid (∀ j, j < k → ∀ x, ns[j]? = some x → inB (ns.take j) x = false) ∧ Below wo3.heap.size wo3 wr) (fun i _ => ns.length - (intOf i).toNat)
       case atStart => exact ⟨0, by omega, rfl, fun j hj => by omega, Below.refl _ _⟩
       case round =>
        obtain ⟨k, hk, rfl, hall, hB4⟩ := hrel
        have hSw := hSt.below hB4
        have hBE := hBB.trans (hB4.mono hBB.size)
        by_cases hlt : k < ns.length
        ·
         obtain ⟨x, hx⟩ : ∃ x, ns[k]? = some x := ⟨_, List.getElem?_eq_getElem hlt⟩
         obtain ⟨b', o', he, c0⟩ := hSw.at hx
         injection he with he
         injection he with u1 u2
         subst u1 u2
         rw [Nat.zero_add] at c0
         have hI := fun n => spec_l02In (ns.take k) (some ⟨g, 0, none⟩) cap x (wr.drewN n) ((hSw.take k).below (below_drewN (Below.refl _ _) n)) (by rw [List.length_take]; omega)
         rw [List.length_take, Nat.min_eq_left (by omega)] at hI
         have j0 : (0 : Int) ≤ (k : Int) := by omega
         have j1 : (k : Int) ≤ (cap : Int) := by omega
         have j2 : (k : Int) < (ns.length : Int) := by omega
         cases hb : inB (ns.take k) x
         ·
          have HR : Hid (∀ j, j < k + 1 → ∀ x, ns[j]? = some x → inB (ns.take j) x = false) := fun j hj y hy => by
           by_cases e : j = k
           ·
            subst e; rw [hx] at hy; obtain rfl := Option.some.inj hy; exact hb
           ·
            exact hall.out j (by omega) y hy
          rw [hb] at hI
          clear hb
          go_wp2_with fail
          go_quiet ((go_at_call 70; exact Calls.quiet_of_same (hI _)))
          go_wp2
          go_roundw
          case rel => exact ⟨k + 1, by omega, by go_num, HR, below_drewN hB4 _⟩
          case measure => simp [intOf]; omega
         ·
          have HR : Hid (rb = false) := HN4.out k x hx hb
          rw [hb] at hI
          clear hb
          go_wp2_with fail
          go_quiet ((go_at_call 70; exact Calls.quiet_of_same (hI _)))
          go_wp2
          go_ret
          exact ⟨ret_bool HR.out.symm, below_drewN hBE _⟩
        ·
         have e : k = ns.length := by omega
         subst e
         have HR : Hid (rb = true) := HYY.out fun j x hx => hall.out j (List.getElem?_eq_some_iff.mp hx).1 x hx
         go_wp2
         go_ret
         exact ⟨ret_bool HR.out.symm, hBE⟩
end Go.Proofs.YtcelbkmnbjcjhaaGreat
