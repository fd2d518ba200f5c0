/- Is a release right: the model's. -/
import Derived.Test.YtjdokmllidhapaaGreatDoorRight19
namespace Go.Proofs.YtjdokmllidhapaaGreatDoor
open Go.RowKit Go.Sort

set_option maxRecDepth 100000 in
set_option maxHeartbeats 8000000 in
theorem spec_ReleaseRight (r : RelD) (v : Value) (w : World) (hv : RelAt w v r) (ok : r.ok) (sm : r.small) (hon : ∀ x ∈ r.rules, x.on.size ≤ 1048576) :
    Calls Tryz.prog 24 #[v] w fun e w' => e = .returned (.bool (relB r)) ∧ Below w.heap.size w w' := by
  obtain ⟨a, b, c, ca, cb, cc, hvv, hAr, hAz, hAl⟩ := hv.form
  obtain ⟨⟨p1, p2⟩, ⟨q1, q2⟩, ⟨s1, s2⟩⟩ := ok
  obtain ⟨m1, m2, m3, m4⟩ := sm
  obtain ⟨i0, hi, hz0, hz1, hz2⟩ := infoStr
  have hB0 := (Below.refl w.heap.size w).alloc (Nat.le_refl _) (.cells #[.slice a r.rules.length ca, .slice b r.zones.length cb, .slice c r.links.length cc] 27)
  have N0 := @rel_no0 r
  have HN1 : Hid (∀ (k : Nat) (x : RuleD), r.rules[k]? = some x → ruleB x = false → relB r = false) := fun k x h1 h2 => rel_rule h1 h2
  have HN2 : Hid (∀ (k : Nat) (z : ZoneD), r.zones[k]? = some z → zoneMB r.rules z = false → relB r = false) := fun k x h1 h2 => rel_zone h1 h2
  have HN3 : Hid (∀ (k : Nat) (x : LinkD), r.links[k]? = some x → (nameB x.name = false ∨ inB (r.zones.map ZoneD.name) x.to_ = false) → relB r = false) := fun k x h1 h2 => rel_link h1 h2
  have HN4 : Hid (∀ (k : Nat) (x : ByteArray), (r.zones.map ZoneD.name ++ r.links.map LinkD.name)[k]? = some x → inB ((r.zones.map ZoneD.name ++ r.links.map LinkD.name).take k) x = true → relB r = false) := fun k x h1 h2 => rel_dup h1 h2
  have HY : Hid ((r.rules.length ≤ 40 ∧ r.zones.length ≤ 12 ∧ r.links.length ≤ 20) → (∀ (k : Nat) x, r.rules[k]? = some x → ruleB x = true) → (∀ (k : Nat) z, r.zones[k]? = some z → zoneMB r.rules z = true) →
    (∀ (k : Nat) x, r.links[k]? = some x → nameB x.name = true ∧ inB (r.zones.map ZoneD.name) x.to_ = true) → (∀ (k : Nat) x, (r.zones.map ZoneD.name ++ r.links.map LinkD.name)[k]? = some x → inB ((r.zones.map ZoneD.name ++ r.links.map LinkD.name).take k) x = false) → relB r = true) := fun h0 h1 h2 h3 h4 => rel_all h0 h1 h2 h3 h4
  generalize relB r = rb at *
  subst hvv
  by_cases g40 : 40 < r.rules.length
  · have HR : Hid (rb = false) := N0 (by omega)
    clear N0 HN1 HN2 HN3 HN4 HY
    go_enter Tryz.func24, Tryz.ntmps24
    go_wp2
    go_ret
    exact ⟨ret_bool HR.out.symm, hB0⟩
  by_cases g12 : 12 < r.zones.length
  · have HR : Hid (rb = false) := N0 (by omega)
    clear N0 HN1 HN2 HN3 HN4 HY
    go_enter Tryz.func24, Tryz.ntmps24
    go_wp2
    go_ret
    exact ⟨ret_bool HR.out.symm, hB0⟩
  by_cases g20 : 20 < r.links.length
  · have HR : Hid (rb = false) := N0 (by omega)
    clear N0 HN1 HN2 HN3 HN4 HY
    go_enter Tryz.func24, Tryz.ntmps24
    go_wp2
    go_ret
    exact ⟨ret_bool HR.out.symm, hB0⟩
  clear N0
  have x0 : (w.alloc (.cells #[.slice a r.rules.length ca, .slice b r.zones.length cb, .slice c r.links.length cc] 27)).cell? ⟨w.heap.size, 0, none⟩ = some (.slice a r.rules.length ca) := by simp [go_sem]
  have y0 : (w.alloc (.cells #[.slice a r.rules.length ca, .slice b r.zones.length cb, .slice c r.links.length cc] 27)).cell? ⟨w.heap.size, 1, none⟩ = some (.slice b r.zones.length cb) := by simp [go_sem]
  have z0 : (w.alloc (.cells #[.slice a r.rules.length ca, .slice b r.zones.length cb, .slice c r.links.length cc] 27)).cell? ⟨w.heap.size, 2, none⟩ = some (.slice c r.links.length cc) := by simp [go_sem]
  have HL : Hid (r.rules.length ≤ 40 ∧ r.zones.length ≤ 12 ∧ r.links.length ≤ 20) := by simp only [Hid]; omega
  have hO0 := ownR_empty (w.alloc (.cells #[.slice a r.rules.length ca, .slice b r.zones.length cb, .slice c r.links.length cc] 27)) 9
  have hb00 := (Below.refl (w.alloc (.cells #[.slice a r.rules.length ca, .slice b r.zones.length cb, .slice c r.links.length cc] 27)).heap.size (w.alloc (.cells #[.slice a r.rules.length ca, .slice b r.zones.length cb, .slice c r.links.length cc] 27))).alloc (Nat.le_refl _) (.cells #[] 9)
  have hAr1 := hAr.below hB0
  have hAz1 := hAz.below hB0
  have hAl1 := hAl.below hB0
  have hv1 := hv.below hB0
  clear hAr hAz hAl hv
  have hW0 : Hid ((w.alloc (.cells #[.slice a r.rules.length ca, .slice b r.zones.length cb, .slice c r.links.length cc] 27)).heap.size = w.heap.size + 1) := by simp [Hid]
  go_enter Tryz.func24, Tryz.ntmps24
  go_wp2
  generalize hW : (w.alloc (.cells #[.slice a r.rules.length ca, .slice b r.zones.length cb, .slice c r.links.length cc] 27)) = W at *
  generalize hW1 : W.alloc (.cells #[] 9) = W1 at *
  go_loopw [4] (fun i wr => ∃ k : Nat, k ≤ r.rules.length ∧ i = .int .i64 k ∧ Hid (∀ j, j < k → ∀ x, r.rules[j]? = some x → ruleB x = true) ∧ Below W1.heap.size W1 wr) (fun i _ => r.rules.length - (intOf i).toNat)
  case atStart => exact ⟨0, by omega, rfl, fun j hj => by omega, by subst hW1; exact Below.refl _ _⟩
  case round =>
    obtain ⟨k, hk, rfl, hall, hB1⟩ := hrel
    have hB := hb00.trans (hB1.mono hb00.size)
    have hBB := hB0.trans (hB.mono hB0.size)
    have x1 := ((bcell hB).1 _ _ (World.block_lt_of_cell? _ _ x0)).trans x0
    have y1 := ((bcell hB).1 _ _ (World.block_lt_of_cell? _ _ y0)).trans y0
    have z1 := ((bcell hB).1 _ _ (World.block_lt_of_cell? _ _ z0)).trans z0
    by_cases hlt : k < r.rules.length
    · obtain ⟨x, hx⟩ : ∃ x, r.rules[k]? = some x := ⟨_, List.getElem?_eq_getElem hlt⟩
      obtain ⟨b', o, rfl, hc⟩ := (hAr1.below hB).at (i := k) (r := x.cs) (by rw [List.getElem?_map, hx]; rfl)
      have hS := fun w => spec_l02Rule x w (p2 x (List.mem_of_getElem? hx)) (hon x (List.mem_of_getElem? hx))
      have c0 : wr.cell? ⟨b', o + k * 9, none⟩ = some (.string x.name) := hc 0 _ rfl
      have c1 := hc 1 _ rfl
      have c2 := hc 2 _ rfl
      have c3 := hc 3 _ rfl
      have c4 := hc 4 _ rfl
      have c5 := hc 5 _ rfl
      have c6 := hc 6 _ rfl
      have c7 := hc 7 _ rfl
      have c8 := hc 8 _ rfl
      clear hc
      unfold RuleD.v at hS
      cases hb : ruleB x
      · have HR : Hid (rb = false) := HN1.out k x hx hb
        rw [hb] at hS
        clear hb HN1 HN2 HN3 HN4 HY
        go_wp2_with fail
        refine (hS _).mono ?_
        rintro e w2 ⟨rfl, hb2⟩
        go_wp2
        go_ret
        exact ⟨ret_bool HR.out.symm, hBB.trans (hb2.mono hBB.size)⟩
      · have HR : Hid (∀ j, j < k + 1 → ∀ x, r.rules[j]? = some x → ruleB x = true) := fun j hj y hy => by
          by_cases e : j = k
          · subst e; rw [hx] at hy; obtain rfl := Option.some.inj hy; exact hb
          · exact hall.out j (by omega) y hy
        rw [hb] at hS
        clear hb
        go_wp2_with fail
        refine (hS _).mono ?_
        rintro e w2 ⟨rfl, hb2⟩
        go_wp2
        go_roundw
        case rel => exact ⟨k + 1, by omega, by go_num, HR, hB1.trans (hb2.mono hB1.size)⟩
        case measure => simp [intOf]; omega
    · have e : k = r.rules.length := by omega
      subst e
      have H1 : Hid (∀ (k : Nat) x, r.rules[k]? = some x → ruleB x = true) := fun j x hx => hall.out j (List.getElem?_eq_some_iff.mp hx).1 x hx
      have hO1 := ownR_below hO0 hB1
      clear hall HN1
      go_wp2
      obtain ⟨wo, rfl⟩ : ∃ wo : World, wo = wr := ⟨_, rfl⟩
      go_loopw [3, 5] (fun s i wr => ∃ k : Nat, k ≤ r.zones.length ∧ i = .int .i64 k ∧ (∃ g cap, s = .slice (some ⟨g, 0, none⟩) k cap) ∧ wr.ownsRow W.heap.size 9 1 s k (((r.zones.map ZoneD.name).take k).map Value.string) ∧ Hid (∀ j, j < k → ∀ x, r.zones[j]? = some x → zoneMB r.rules x = true) ∧ Below W.heap.size W wr) (fun _ i _ => r.zones.length - (intOf i).toNat)
      case atStart => exact ⟨0, by omega, rfl, ⟨_, _, rfl⟩, by rw [← hW0.out]; exact hO1, fun j hj => by omega, hB⟩
      case round =>
        clear hO1 hO0 hB hBB x1 y1 z1 hB1
        obtain ⟨k, hk, rfl, hform, hO, hall, hB⟩ := hrel
        have hBB := hB0.trans (hB.mono hB0.size)
        have x1 := ((bcell hB).1 _ _ (World.block_lt_of_cell? _ _ x0)).trans x0
        have y1 := ((bcell hB).1 _ _ (World.block_lt_of_cell? _ _ y0)).trans y0
        have z1 := ((bcell hB).1 _ _ (World.block_lt_of_cell? _ _ z0)).trans z0
        by_cases hlt : k < r.zones.length
        · obtain ⟨x, hx⟩ : ∃ x, r.zones[k]? = some x := ⟨_, List.getElem?_eq_getElem hlt⟩
          obtain ⟨b', o, rfl, c0, u, c1, hu⟩ := (hAz1.below hB).at hx
          have okx := q2 x (List.mem_of_getElem? hx)
          have cE : ∀ dd os, Calls Tryz.prog 63 #[.agg #[.slice a r.rules.length ca, .slice (some ⟨b', o, none⟩) r.zones.length cb, .slice c r.links.length cc], .agg #[.string x.name, u]] (grow (redrawn wr dd) os) fun e w'' => e = .returned (.bool (zoneMB r.rules x)) ∧ ∃ p : Regrown, w'' = grow (redrawn wr p.d) p.os := fun dd os => Calls.regrown_of (spec_l02Zone r _ x u _ ((hv1.below hB).below (below_regrown wr dd os)) (hu.below (below_regrown wr dd os)) okx m1)
          obtain ⟨ae, ce, rfl, _⟩ := hu
          have kx := cell_regrown x1
          have ky := cell_regrown y1
          have kz := cell_regrown z1
          have kc0 := cell_regrown c0
          have kc1 := cell_regrown c1
          cases hb : zoneMB r.rules x
          · have HR : Hid (rb = false) := HN2.out k x hx hb
            rw [hb] at cE
            clear hb HN2 HN3 HN4 HY hform hO
            go_wp2_with fail
            refine wp_region_quiet_below (by kernel_rfl) (by kernel_rfl) ?_
            repeat (quiet_step ((go_at_call 63; exact cE _ _)))
            refine wpQuiet_nil ?_
            intro _ hw'
            obtain ⟨⟨dq, osq⟩, hw''⟩ := hw'
            subst hw''
            have hb2 := below_regrown wr dq osq
            go_wp2
            go_ret
            exact ⟨ret_bool HR.out.symm, hBB.trans (hb2.mono hBB.size)⟩
          · have HR : Hid (∀ j, j < k + 1 → ∀ x, r.zones[j]? = some x → zoneMB r.rules x = true) := fun j hj y hy => by
              by_cases e : j = k
              · subst e; rw [hx] at hy; obtain rfl := Option.some.inj hy; exact hb
              · exact hall.out j (by omega) y hy
            rw [hb] at cE
            have hs := takeN_succ (l := r.zones.map ZoneD.name) (k := k) (x := x.name) (by rw [List.getElem?_map, hx]; rfl)
            have HS : Hid (((r.zones.map ZoneD.name).take (k + 1)).map Value.string = ((r.zones.map ZoneD.name).take k).map Value.string ++ [.string x.name]) := hs
            clear hs hb hform
            go_wp2_with fail
            refine wp_region_quiet_below (by kernel_rfl) (by kernel_rfl) ?_
            repeat (quiet_step ((go_at_call 63; exact cE _ _)))
            refine wpQuiet_nil ?_
            intro V hw'
            obtain ⟨⟨dq, osq⟩, hw''⟩ := hw'
            have hb2 : Below wr.heap.size wr V := hw'' ▸ below_regrown wr dq osq
            clear hw'' kx ky kz kc0 kc1 cE
            have hB2 := hB.trans (hb2.mono hB.size)
            have hO2 := ownR_below hO hb2
            have x2 := ((bcell hb2).1 _ _ (World.block_lt_of_cell? _ _ x1)).trans x1
            have y2 := ((bcell hb2).1 _ _ (World.block_lt_of_cell? _ _ y1)).trans y1
            have d0 := ((bcell hb2).1 _ _ (World.block_lt_of_cell? _ _ c0)).trans c0
            have hsz := hB2.size
            clear hb2 hO x1 y1 z1 c0 c1
            generalize ((r.zones.map ZoneD.name).take k).map Value.string = xs at *
            go_wp2_with (first
              | (at_builtin; refine wpList_append_own _ rfl _ _ 81 rfl W.heap.size 9 i0 (.string ⟨#[]⟩) 1 16 Tryz.underlying81 hi hz0 hz1 hz2 rfl (by decide) _ _ _ rfl (hO2.alloc _) ⟨V.heap.size, 0, none⟩ 1 1 [.string x.name] rfl rfl ?c1 ?c2 ?c3 ?c4 ?c5 ?_)
              | fail)
            case c2 => rfl
            case c3 => unfold maxLen; omega
            case c4 => omega
            case c5 => omega
            · intro v' w3 hown' hgrow _
              have hB3 : Below W.heap.size W w3 := (hB2.alloc hsz _).grown hgrow (by simp; omega) (ownR_blk hO2)
              clear hgrow hO2
              go_wp2
              go_roundw
              case rel => exact ⟨k + 1, by omega, by go_num, ownR_some hown' (by omega), by rw [HS.out]; exact hown', HR, hB3⟩
              case measure => simp [intOf]; omega
        · have e : k = r.zones.length := by omega
          subst e
          have H2 : Hid (∀ (k : Nat) x, r.zones[k]? = some x → zoneMB r.rules x = true) := fun j x hx => hall.out j (List.getElem?_eq_some_iff.mp hx).1 x hx
          obtain ⟨g0, cap0, rfl⟩ := hform
          rw [List.take_of_length_le (by simp)] at hO
          clear hall HN2
          go_wp2
          obtain ⟨wo2, rfl⟩ : ∃ wo : World, wo = wr := ⟨_, rfl⟩
          go_loopw [3, 7] (fun s i wr => ∃ k : Nat, k ≤ r.links.length ∧ i = .int .i64 k ∧ (∃ g cap, s = .slice (some ⟨g, 0, none⟩) (r.zones.length + k) cap) ∧ wr.ownsRow W.heap.size 9 1 s (r.zones.length + k) ((r.zones.map ZoneD.name ++ (r.links.map LinkD.name).take k).map Value.string) ∧ Hid (∀ j, j < k → ∀ x, r.links[j]? = some x → nameB x.name = true ∧ inB (r.zones.map ZoneD.name) x.to_ = true) ∧ Below W.heap.size W wr) (fun _ i _ => r.links.length - (intOf i).toNat)
          case atStart => exact ⟨0, by omega, rfl, ⟨_, _, rfl⟩, by simpa using hO, fun j hj => by omega, hB⟩
          case round =>
            clear hO hB hBB x1 y1 z1
            obtain ⟨k, hk, rfl, ⟨g, cap, rfl⟩, hO, hall, hB⟩ := hrel
            have hBB := hB0.trans (hB.mono hB0.size)
            have x1 := ((bcell hB).1 _ _ (World.block_lt_of_cell? _ _ x0)).trans x0
            have y1 := ((bcell hB).1 _ _ (World.block_lt_of_cell? _ _ y0)).trans y0
            have z1 := ((bcell hB).1 _ _ (World.block_lt_of_cell? _ _ z0)).trans z0
            obtain ⟨hSt, hcap, hlen⟩ := ownR_strs hO
            have hStz := hSt.take r.zones.length
            rw [List.take_append_of_le_length (by simp), List.take_of_length_le (by simp)] at hStz
            by_cases hlt : k < r.links.length
            · obtain ⟨x, hx⟩ : ∃ x, r.links[k]? = some x := ⟨_, List.getElem?_eq_getElem hlt⟩
              obtain ⟨b', o, rfl, hc⟩ := (hAl1.below hB).at (i := k) (r := x.cs) (by rw [List.getElem?_map, hx]; rfl)
              have c0 : wr.cell? ⟨b', o + k * 2, none⟩ = some (.string x.to_) := hc 0 _ rfl
              have c1 := hc 1 _ rfl
              clear hc
              have okx := s2 x (List.mem_of_getElem? hx)
              have hN := fun w => spec_NameRight x.name w okx.2
              have hI := fun n => spec_l02In (r.zones.map ZoneD.name) (some ⟨g, 0, none⟩) cap x.to_ (wr.drewN n) (hStz.below (below_drewN (Below.refl _ _) n)) (by simp; omega)
              rw [List.length_map] at hI
              have j0 : (0 : Int) ≤ (r.zones.length : Int) := by omega
              have j1 : (r.zones.length : Int) ≤ (cap : Int) := by omega
              cases hb1 : nameB x.name
              · have HR : Hid (rb = false) := HN3.out k x hx (.inl hb1)
                rw [hb1] at hN
                clear hb1 HN3 HN4 HY
                go_wp2_with fail
                go_quiet ((first | (go_at_call 64; exact Calls.quiet_of_same (hN _)) | (go_at_call 65; exact Calls.quiet_of_same (hI _))))
                go_wp2
                go_ret
                exact ⟨ret_bool HR.out.symm, below_drewN hBB _⟩
              · rw [hb1] at hN
                cases hb2 : inB (r.zones.map ZoneD.name) x.to_
                · have HR : Hid (rb = false) := HN3.out k x hx (.inr hb2)
                  rw [hb2] at hI
                  clear hb1 hb2 HN3 HN4 HY
                  go_wp2_with fail
                  go_quiet ((first | (go_at_call 64; exact Calls.quiet_of_same (hN _)) | (go_at_call 65; exact Calls.quiet_of_same (hI _))))
                  go_wp2
                  go_ret
                  exact ⟨ret_bool HR.out.symm, below_drewN hBB _⟩
                · have HR : Hid (∀ j, j < k + 1 → ∀ x, r.links[j]? = some x → nameB x.name = true ∧ inB (r.zones.map ZoneD.name) x.to_ = true) := fun j hj y hy => by
                    by_cases e : j = k
                    · subst e; rw [hx] at hy; obtain rfl := Option.some.inj hy; exact ⟨hb1, hb2⟩
                    · exact hall.out j (by omega) y hy
                  rw [hb2] at hI
                  clear hb1 hb2
                  go_wp2_with fail
                  go_quiet ((first | (go_at_call 64; exact Calls.quiet_of_same (hN _)) | (go_at_call 65; exact Calls.quiet_of_same (hI _))))
                  obtain ⟨V, hV⟩ : ∃ V, V = wr.drewN nq := ⟨_, rfl⟩
                  rw [← hV]
                  have hb2 : Below wr.heap.size wr V := hV ▸ below_drewN (Below.refl _ _) _
                  clear hV hI hN hSt hStz
                  have hB2 := hB.trans (hb2.mono hB.size)
                  have hO2 := ownR_below hO hb2
                  have z2 := ((bcell hb2).1 _ _ (World.block_lt_of_cell? _ _ z1)).trans z1
                  have d1 := ((bcell hb2).1 _ _ (World.block_lt_of_cell? _ _ c1)).trans c1
                  have hsz := hB2.size
                  have hs := takeN_succ (l := r.links.map LinkD.name) (k := k) (x := x.name) (by rw [List.getElem?_map, hx]; rfl)
                  have HS : Hid ((r.zones.map ZoneD.name ++ (r.links.map LinkD.name).take (k + 1)).map Value.string = (r.zones.map ZoneD.name ++ (r.links.map LinkD.name).take k).map Value.string ++ [.string x.name]) := by
                    simp only [Hid]; rw [List.map_append, hs, ← List.append_assoc, ← List.map_append]
                  clear hs hb2 hO x1 y1 z1 c0 c1 hlen
                  generalize (r.zones.map ZoneD.name ++ (r.links.map LinkD.name).take k).map Value.string = xs at *
                  obtain ⟨n, hn⟩ : ∃ n, n = r.zones.length + k := ⟨_, rfl⟩
                  have HNN : Hid (r.zones.length + (k + 1) = n + 1) := by simp only [Hid]; omega
                  have hn2 : n ≤ 2097152 := by omega
                  rw [← hn] at hO2 ⊢
                  clear hn
                  go_wp2_with (first
                    | (at_builtin; refine wpList_append_own _ rfl _ _ 81 rfl W.heap.size 9 i0 (.string ⟨#[]⟩) 1 16 Tryz.underlying81 hi hz0 hz1 hz2 rfl (by decide) _ _ _ rfl (hO2.alloc _) ⟨V.heap.size, 0, none⟩ 1 1 [.string x.name] rfl rfl ?d1 ?d2 ?d3 ?d4 ?d5 ?_)
                    | fail)
                  case d2 => rfl
                  case d3 => unfold maxLen; omega
                  case d4 => omega
                  case d5 => omega
                  · intro v' w3 hown' hgrow _
                    have hB3 : Below W.heap.size W w3 := (hB2.alloc hsz _).grown hgrow (by simp; omega) (ownR_blk hO2)
                    clear hgrow hO2
                    go_wp2
                    go_roundw
                    case rel => exact ⟨k + 1, by omega, by go_num, by rw [HNN.out]; exact ownR_some hown' (by omega), by rw [HS.out, HNN.out]; exact hown', HR, hB3⟩
                    case measure => simp [intOf]; omega
            · have e : k = r.links.length := by omega
              subst e
              have H3 : Hid (∀ (k : Nat) x, r.links[k]? = some x → nameB x.name = true ∧ inB (r.zones.map ZoneD.name) x.to_ = true) := fun j x hx => hall.out j (List.getElem?_eq_some_iff.mp hx).1 x hx
              have HYY : Hid ((∀ (k : Nat) x, (r.zones.map ZoneD.name ++ r.links.map LinkD.name)[k]? = some x → inB ((r.zones.map ZoneD.name ++ r.links.map LinkD.name).take k) x = false) → rb = true) := fun h4 => HY.out HL.out H1.out H2.out H3.out h4
              rw [List.take_of_length_le (by simp)] at hSt hlen
              clear hall HN3 HY HL H1 H2 H3 hStz hO hW0 hW1
              generalize r.zones.map ZoneD.name ++ r.links.map LinkD.name = ns at *
              have hn2 : ns.length ≤ 1048576 := by omega
              rw [← hlen]
              rw [← hlen] at hcap
              clear hlen
              go_wp2
              obtain ⟨wo3, rfl⟩ : ∃ wo : World, wo = wr := ⟨_, rfl⟩
              go_loopw [8] (fun i wr => ∃ k : Nat, k ≤ ns.length ∧ i = .int .i64 k ∧ Hid (∀ j, j < k → ∀ x, ns[j]? = some x → inB (ns.take j) x = false) ∧ Below wo3.heap.size wo3 wr) (fun i _ => ns.length - (intOf i).toNat)
              case atStart => exact ⟨0, by omega, rfl, fun j hj => by omega, Below.refl _ _⟩
              case round =>
                obtain ⟨k, hk, rfl, hall, hB4⟩ := hrel
                have hSw := hSt.below hB4
                have hBE := hBB.trans (hB4.mono hBB.size)
                by_cases hlt : k < ns.length
                · obtain ⟨x, hx⟩ : ∃ x, ns[k]? = some x := ⟨_, List.getElem?_eq_getElem hlt⟩
                  obtain ⟨b', o', he, c0⟩ := hSw.at hx
                  injection he with he
                  injection he with u1 u2
                  subst u1 u2
                  rw [Nat.zero_add] at c0
                  have hI := fun n => spec_l02In (ns.take k) (some ⟨g, 0, none⟩) cap x (wr.drewN n) ((hSw.take k).below (below_drewN (Below.refl _ _) n)) (by rw [List.length_take]; omega)
                  rw [List.length_take, Nat.min_eq_left (by omega)] at hI
                  have j0 : (0 : Int) ≤ (k : Int) := by omega
                  have j1 : (k : Int) ≤ (cap : Int) := by omega
                  have j2 : (k : Int) < (ns.length : Int) := by omega
                  cases hb : inB (ns.take k) x
                  · have HR : Hid (∀ j, j < k + 1 → ∀ x, ns[j]? = some x → inB (ns.take j) x = false) := fun j hj y hy => by
                      by_cases e : j = k
                      · subst e; rw [hx] at hy; obtain rfl := Option.some.inj hy; exact hb
                      · exact hall.out j (by omega) y hy
                    rw [hb] at hI
                    clear hb
                    go_wp2_with fail
                    go_quiet ((go_at_call 65; exact Calls.quiet_of_same (hI _)))
                    go_wp2
                    go_roundw
                    case rel => exact ⟨k + 1, by omega, by go_num, HR, below_drewN hB4 _⟩
                    case measure => simp [intOf]; omega
                  · have HR : Hid (rb = false) := HN4.out k x hx hb
                    rw [hb] at hI
                    clear hb
                    go_wp2_with fail
                    go_quiet ((go_at_call 65; exact Calls.quiet_of_same (hI _)))
                    go_wp2
                    go_ret
                    exact ⟨ret_bool HR.out.symm, below_drewN hBE _⟩
                · have e : k = ns.length := by omega
                  subst e
                  have HR : Hid (rb = true) := HYY.out fun j x hx => hall.out j (List.getElem?_eq_some_iff.mp hx).1 x hx
                  go_wp2
                  go_ret
                  exact ⟨ret_bool HR.out.symm, hBE⟩
end Go.Proofs.YtjdokmllidhapaaGreatDoor
