/- Packed: Ts1 Ts2. -/
import Derived.Test.YtbbhpfobcelbfaaGreatDoorTbPt
import Derived.Lib.QuietBelow
namespace Go.Proofs.YtbbhpfobcelbfaaGreatDoor
open Go.RowKit Go.Sort

set_option maxRecDepth 20000 in
set_option maxHeartbeats 4000000 in
theorem spec_l03Force (H : List HapD) (a : Option Addr) (ca : Nat) (t : Int) (w : World) (hA : SeqAt w a 3 (H.map HapD.cs)) (hl : H.length ≤ 2000) :
    Calls Tryz.prog 201 #[.slice a H.length ca, .int .i64 t] w fun e w' => e = .returned (forceN H (hcnt H t)).v ∧ Below w.heap.size w w' := by
  have HA : Hid (∀ (k : Nat) (x : HapD), H[k]? = some x → x.save = 0 → (∀ j y, j < k → H[j]? = some y → y.save ≠ 0) → firstL H = x.letter) := fun k x h1 h2 h3 => firstL_at h1 h2 h3
  have HN : Hid ((∀ j y, j < H.length → H[j]? = some y → y.save ≠ 0) → firstL H = ⟨#[]⟩) := fun h => firstL_none fun x hx => by
    obtain ⟨j, hj⟩ := List.getElem?_of_mem hx
    exact h j x (List.getElem?_eq_some_iff.mp hj).1 hj
  have hB0 := (Below.refl w.heap.size w).alloc (Nat.le_refl _) (.cells #[.int .i64 0, .int .i64 0, .string ⟨#[]⟩] 36)
  have hA0 := hA.below hB0
  have r0 : (w.alloc (.cells #[.int .i64 0, .int .i64 0, .string ⟨#[]⟩] 36)).cell? ⟨w.heap.size, 0, none⟩ = some (.int .i64 0) := by simp [go_sem]
  have r1 : (w.alloc (.cells #[.int .i64 0, .int .i64 0, .string ⟨#[]⟩] 36)).cell? ⟨w.heap.size, 1, none⟩ = some (.int .i64 0) := by simp [go_sem]
  have r2 : (w.alloc (.cells #[.int .i64 0, .int .i64 0, .string ⟨#[]⟩] 36)).cell? ⟨w.heap.size, 2, none⟩ = some (.string ⟨#[]⟩) := by simp [go_sem]
  have f0 : (w.alloc (.cells #[.int .i64 0, .int .i64 0, .string ⟨#[]⟩] 36)).frozen? ⟨w.heap.size, 0, none⟩ = false := by simp [go_sem]
  have f1 : (w.alloc (.cells #[.int .i64 0, .int .i64 0, .string ⟨#[]⟩] 36)).frozen? ⟨w.heap.size, 1, none⟩ = false := by simp [go_sem]
  have f2 : (w.alloc (.cells #[.int .i64 0, .int .i64 0, .string ⟨#[]⟩] 36)).frozen? ⟨w.heap.size, 2, none⟩ = false := by simp [go_sem]
  have HF1 : Hid (∀ k x, hcntK H t (k + 1) = hcnt H t → H[k]? = some x → x.at_ ≤ t → forceN H (hcnt H t) = x) := fun k x h1 h2 h3 => by
    rw [← h1, hcntK_hit h2 h3]
    simp only [forceN]
    rw [h2]
    rfl
  have HF2 : Hid (hcntK H t 0 = hcnt H t → forceN H (hcnt H t) = ⟨0, 0, firstL H⟩) := fun h => by rw [← h]; rfl
  have HF3 : Hid (hcntK H t H.length = hcnt H t) := rfl
  generalize hF : forceN H (hcnt H t) = F at *
  clear hF
  generalize hcnt H t = c at *
  go_enter Tryz.func201, Tryz.ntmps201
  go_wp2
  generalize (w.alloc (.cells #[.int .i64 0, .int .i64 0, .string ⟨#[]⟩] 36)) = W at *
  go_loopw [5] (fun s5 wr => ∃ m : Nat, m ≤ H.length ∧ s5 = .int .i64 ((m : Int) - 1) ∧ Hid (hcntK H t m = c) ∧ wr = W) (fun s5 _ => (intOf s5 + 1).toNat)
  case atStart => exact ⟨H.length, Nat.le_refl _, rfl, HF3, rfl⟩
  case round =>
    obtain ⟨m, hm, hs5, hC, hw⟩ := hrel
    subst hw
    cases m with
    | zero =>
      subst hs5
      have HF : Hid (F = ⟨0, 0, firstL H⟩) := HF2.out hC.out
      go_wp2
      go_loopw [6] (fun s6 wq => ∃ k : Nat, k ≤ H.length ∧ s6 = .int .i64 k ∧ Hid (∀ j y, j < k → H[j]? = some y → y.save ≠ 0) ∧ wq = wr) (fun s6 _ => H.length - (intOf s6).toNat)
      case atStart => exact ⟨0, by omega, rfl, fun j y h => by omega, rfl⟩
      case round =>
        obtain ⟨k, hk, rfl, hN, hw⟩ := hrel
        subst hw
        by_cases hlt : k < H.length
        · obtain ⟨x, hx⟩ : ∃ x, H[k]? = some x := ⟨_, List.getElem?_eq_getElem hlt⟩
          obtain ⟨b, o, rfl, hc⟩ := hA0.at (i := k) (r := x.cs) (by rw [List.getElem?_map, hx]; rfl)
          have c1 := hc 1 _ rfl
          have c2 := hc 2 _ rfl
          have hkl : (k : Int) < (H.length : Int) := by omega
          by_cases h0 : x.save = 0
          · have HR : Hid (F = ⟨0, 0, x.letter⟩) := by simp only [Hid]; rw [HF.out, HA.out k x hx h0 hN.out]
            rw [h0] at c1
            clear hc hx hN
            obtain ⟨s0, s1, s2⟩ := set_three3 (v0 := .int .i64 0) (v1 := .int .i64 0) (v2 := .string x.letter) r0 r1 r2
            go_wp2
            exact bodyPost_ret (v := .agg #[.int .i64 0, .int .i64 0, .string x.letter]) (by simp [results, Tryz.results201, go_sem, s0, s1, s2]) rfl ⟨by rw [HR.out]; rfl, ((hB0.setCell (Nat.le_refl _) _).setCell (Nat.le_refl _) _).setCell (Nat.le_refl _) _⟩
          · have HR : Hid (∀ j y, j < k + 1 → H[j]? = some y → y.save ≠ 0) := fun j y hj hy => by
              by_cases e : j = k
              · subst e; rw [hx] at hy; injection hy with hy; subst hy; exact h0
              · exact hN.out j y (by omega) hy
            clear hc hx hN
            go_wp2
            go_roundw
            case rel => exact ⟨k + 1, by omega, by go_num, HR, trivial⟩
            case measure => simp [intOf]; omega
        · have HR : Hid (F = ⟨0, 0, ⟨#[]⟩⟩) := by simp only [Hid]; rw [HF.out, HN.out fun j y hj hy => hN.out j y (by omega) hy]
          have hkl : ¬ (k : Int) < (H.length : Int) := by omega
          obtain ⟨s0, s1, s2⟩ := set_three3 (v0 := .int .i64 0) (v1 := .int .i64 0) (v2 := .string ⟨#[]⟩) r0 r1 r2
          clear hN
          go_wp2
          exact bodyPost_ret (v := .agg #[.int .i64 0, .int .i64 0, .string ⟨#[]⟩]) (by simp [results, Tryz.results201, go_sem, s0, s1, s2]) rfl ⟨by rw [HR.out]; rfl, ((hB0.setCell (Nat.le_refl _) _).setCell (Nat.le_refl _) _).setCell (Nat.le_refl _) _⟩
    | succ k =>
      rw [show (((k + 1 : Nat) : Int) - 1) = (k : Int) by omega] at hs5
      subst hs5
      obtain ⟨x, hx⟩ : ∃ x, H[k]? = some x := ⟨_, List.getElem?_eq_getElem (by omega)⟩
      obtain ⟨b, o, rfl, hc⟩ := hA0.at (i := k) (r := x.cs) (by rw [List.getElem?_map, hx]; rfl)
      have c0 : wr.cell? ⟨b, o + k * 3, none⟩ = some (.int .i64 x.at_) := hc 0 _ rfl
      have c1 := hc 1 _ rfl
      have c2 := hc 2 _ rfl
      have hkl : (k : Int) < (H.length : Int) := by omega
      by_cases ht : x.at_ ≤ t
      · have HR : Hid (F = x) := HF1.out k x hC.out hx ht
        obtain ⟨s0, s1, s2⟩ := set_three3 (v0 := .int .i64 x.at_) (v1 := .int .i64 x.save) (v2 := .string x.letter) r0 r1 r2
        clear hc hx hC
        go_wp2
        exact bodyPost_ret (v := .agg #[.int .i64 x.at_, .int .i64 x.save, .string x.letter]) (by simp [results, Tryz.results201, go_sem, s0, s1, s2]) rfl ⟨by rw [HR.out]; rfl, ((hB0.setCell (Nat.le_refl _) _).setCell (Nat.le_refl _) _).setCell (Nat.le_refl _) _⟩
      · have HC : Hid (hcntK H t k = c) := by simp only [Hid]; rw [← hcntK_step hx (by omega)]; exact hC.out
        clear hc hx hC
        go_wp2
        go_roundw
        case rel => exact ⟨k, by omega, rfl, HC, trivial⟩
        case measure => simp [intOf]
end Go.Proofs.YtbbhpfobcelbfaaGreatDoor
namespace Go.Proofs.YtbbhpfobcelbfaaGreatDoor
open Go.RowKit Go.Sort

set_option maxRecDepth 20000 in
set_option maxHeartbeats 4000000 in
theorem spec_l03Made (e : EraD) (F : HapD) (t : Int) (w : World) (hf : e.format.size ≤ 8000) (hl : F.letter.size ≤ 8000) (h3 : -86400 ≤ e.offset) (h4 : e.offset ≤ 86400) (h5 : -7200 ≤ F.save) (h6 : F.save ≤ 7200) :
    Calls Tryz.prog 166 #[e.v, F.v, .int .i64 t] w fun r W' => r = .returned (madeE e F t).v ∧ Below w.heap.size w W' := by
  have hA : ∀ w, Calls Tryz.prog 42 #[.string e.format, .string F.letter, .int .i64 F.save] w fun r w' => r = .returned (.string (abbrD e.format F.letter F.save)) ∧ Below w.heap.size w w' := fun w => (spec_l03Abbr e.format F.letter F.save w hf hl).mono (by
    rintro r w' ⟨rfl, n, rfl⟩
    exact ⟨by rw [abbrD_yes ⟨hf, hl⟩], below_drewN (Below.refl _ _) _⟩)
  have HR : Hid ((madeE e F t).v = .agg #[.int .i64 t, .int .i64 (e.offset + F.save), .int .i64 F.save, .string (abbrD e.format F.letter F.save)]) := rfl
  generalize abbrD e.format F.letter F.save = ab at *
  generalize (madeE e F t).v = RV at *
  have hB0 := ((((Below.refl w.heap.size w).alloc (Nat.le_refl _) (.cells #[.int .i64 e.offset, .string e.rules, .int .i64 e.save, .string e.format, .int .i64 e.until_, .string e.of] 55)).alloc (by simp) (.cells #[.int .i64 F.at_, .int .i64 F.save, .string F.letter] 36)).alloc (by simp; omega) (.cells #[.int .i64 0, .int .i64 0, .int .i64 0, .string ⟨#[]⟩] 53))
  have k0 : (((w.alloc (.cells #[.int .i64 e.offset, .string e.rules, .int .i64 e.save, .string e.format, .int .i64 e.until_, .string e.of] 55)).alloc (.cells #[.int .i64 F.at_, .int .i64 F.save, .string F.letter] 36)).alloc (.cells #[.int .i64 0, .int .i64 0, .int .i64 0, .string ⟨#[]⟩] 53)).cell? ⟨w.heap.size, 0, none⟩ = some (.int .i64 e.offset) := by simp [go_sem]
  have k3 : (((w.alloc (.cells #[.int .i64 e.offset, .string e.rules, .int .i64 e.save, .string e.format, .int .i64 e.until_, .string e.of] 55)).alloc (.cells #[.int .i64 F.at_, .int .i64 F.save, .string F.letter] 36)).alloc (.cells #[.int .i64 0, .int .i64 0, .int .i64 0, .string ⟨#[]⟩] 53)).cell? ⟨w.heap.size, 3, none⟩ = some (.string e.format) := by simp [go_sem]
  have l1 : (((w.alloc (.cells #[.int .i64 e.offset, .string e.rules, .int .i64 e.save, .string e.format, .int .i64 e.until_, .string e.of] 55)).alloc (.cells #[.int .i64 F.at_, .int .i64 F.save, .string F.letter] 36)).alloc (.cells #[.int .i64 0, .int .i64 0, .int .i64 0, .string ⟨#[]⟩] 53)).cell? ⟨w.heap.size + 1, 1, none⟩ = some (.int .i64 F.save) := by simp [go_sem]
  have l2 : (((w.alloc (.cells #[.int .i64 e.offset, .string e.rules, .int .i64 e.save, .string e.format, .int .i64 e.until_, .string e.of] 55)).alloc (.cells #[.int .i64 F.at_, .int .i64 F.save, .string F.letter] 36)).alloc (.cells #[.int .i64 0, .int .i64 0, .int .i64 0, .string ⟨#[]⟩] 53)).cell? ⟨w.heap.size + 1, 2, none⟩ = some (.string F.letter) := by simp [go_sem]
  have r0 : (((w.alloc (.cells #[.int .i64 e.offset, .string e.rules, .int .i64 e.save, .string e.format, .int .i64 e.until_, .string e.of] 55)).alloc (.cells #[.int .i64 F.at_, .int .i64 F.save, .string F.letter] 36)).alloc (.cells #[.int .i64 0, .int .i64 0, .int .i64 0, .string ⟨#[]⟩] 53)).cell? ⟨w.heap.size + 1 + 1, 0, none⟩ = some (.int .i64 0) := by simp [go_sem]
  have r1 : (((w.alloc (.cells #[.int .i64 e.offset, .string e.rules, .int .i64 e.save, .string e.format, .int .i64 e.until_, .string e.of] 55)).alloc (.cells #[.int .i64 F.at_, .int .i64 F.save, .string F.letter] 36)).alloc (.cells #[.int .i64 0, .int .i64 0, .int .i64 0, .string ⟨#[]⟩] 53)).cell? ⟨w.heap.size + 1 + 1, 1, none⟩ = some (.int .i64 0) := by simp [go_sem]
  have r2 : (((w.alloc (.cells #[.int .i64 e.offset, .string e.rules, .int .i64 e.save, .string e.format, .int .i64 e.until_, .string e.of] 55)).alloc (.cells #[.int .i64 F.at_, .int .i64 F.save, .string F.letter] 36)).alloc (.cells #[.int .i64 0, .int .i64 0, .int .i64 0, .string ⟨#[]⟩] 53)).cell? ⟨w.heap.size + 1 + 1, 2, none⟩ = some (.int .i64 0) := by simp [go_sem]
  have r3 : (((w.alloc (.cells #[.int .i64 e.offset, .string e.rules, .int .i64 e.save, .string e.format, .int .i64 e.until_, .string e.of] 55)).alloc (.cells #[.int .i64 F.at_, .int .i64 F.save, .string F.letter] 36)).alloc (.cells #[.int .i64 0, .int .i64 0, .int .i64 0, .string ⟨#[]⟩] 53)).cell? ⟨w.heap.size + 1 + 1, 3, none⟩ = some (.string ⟨#[]⟩) := by simp [go_sem]
  have f0 : ∀ j, j < 4 → (((w.alloc (.cells #[.int .i64 e.offset, .string e.rules, .int .i64 e.save, .string e.format, .int .i64 e.until_, .string e.of] 55)).alloc (.cells #[.int .i64 F.at_, .int .i64 F.save, .string F.letter] 36)).alloc (.cells #[.int .i64 0, .int .i64 0, .int .i64 0, .string ⟨#[]⟩] 53)).frozen? ⟨w.heap.size + 1 + 1, j, none⟩ = false := fun j hj => by simp [go_sem]
  unfold EraD.v HapD.v
  go_enter Tryz.func166, Tryz.ntmps166
  go_wp2_with fail
  generalize (((w.alloc (.cells #[.int .i64 e.offset, .string e.rules, .int .i64 e.save, .string e.format, .int .i64 e.until_, .string e.of] 55)).alloc (.cells #[.int .i64 F.at_, .int .i64 F.save, .string F.letter] 36)).alloc (.cells #[.int .i64 0, .int .i64 0, .int .i64 0, .string ⟨#[]⟩] 53)) = W at *
  have hBD : Below w.heap.size w W.drew := hB0.trans ((below_drew W).mono hB0.size)
  have hn2 : ¬ w.heap.size + 1 + 1 = w.heap.size := by omega
  have hn3 : ¬ w.heap.size = w.heap.size + 1 + 1 := by omega
  have hwr : IntKind.i64.wrap (e.offset + F.save) = e.offset + F.save := by rw [IntKind.wrap_i64]; omega
  go_region_held3 (fun w' => w'.cell? ⟨w.heap.size, 0, none⟩ = some (.int .i64 e.offset) ∧ w'.cell? ⟨w.heap.size, 3, none⟩ = some (.string e.format) ∧ w'.cell? ⟨w.heap.size + 1, 1, none⟩ = some (.int .i64 F.save) ∧ w'.cell? ⟨w.heap.size + 1, 2, none⟩ = some (.string F.letter)) (go_keep) ((go_at_call 42; refine (hA _).mono ?_; rintro r w4 ⟨rfl, hb⟩; have q0 := keepC hb k0; have q3 := keepC hb k3; have p1 := keepC hb l1; have p2 := keepC hb l2; have s0 := keepC hb r0; have s1 := keepC hb r1; have s2 := keepC hb r2; have s3 := keepC hb r3; have z0 : w4.frozen? ⟨w.heap.size + 1 + 1, 0, none⟩ = false := ((bcell hb).2 _ _ (World.block_lt_of_cell? _ _ r0)).trans (f0 0 (by omega)); have z1 : w4.frozen? ⟨w.heap.size + 1 + 1, 1, none⟩ = false := ((bcell hb).2 _ _ (World.block_lt_of_cell? _ _ r0)).trans (f0 1 (by omega)); have z2 : w4.frozen? ⟨w.heap.size + 1 + 1, 2, none⟩ = false := ((bcell hb).2 _ _ (World.block_lt_of_cell? _ _ r0)).trans (f0 2 (by omega)); have z3 : w4.frozen? ⟨w.heap.size + 1 + 1, 3, none⟩ = false := ((bcell hb).2 _ _ (World.block_lt_of_cell? _ _ r0)).trans (f0 3 (by omega))))
  all_goals
    go_wp2
    have hB : Below w.heap.size w w4 := hBD.trans (hb.mono hBD.size)
    obtain ⟨u0, u1, u2, u3⟩ := set_fourB (v0 := .int .i64 t) (v1 := .int .i64 (e.offset + F.save)) (v2 := .int .i64 F.save) (v3 := .string ab) s0 s1 s2 s3
    exact bodyPost_ret (v := .agg #[.int .i64 t, .int .i64 (e.offset + F.save), .int .i64 F.save, .string ab]) (by simp [results, Tryz.results166, go_sem, u0, u1, u2, u3]) rfl ⟨by rw [HR.out], (((hB.setCell (show w.heap.size ≤ w.heap.size + 1 + 1 by omega) _).setCell (show w.heap.size ≤ w.heap.size + 1 + 1 by omega) _).setCell (show w.heap.size ≤ w.heap.size + 1 + 1 by omega) _).setCell (show w.heap.size ≤ w.heap.size + 1 + 1 by omega) _⟩
set_option maxRecDepth 20000 in
set_option maxHeartbeats 4000000 in
theorem spec_l03Turn (e : EraD) (H : List HapD) (a : Option Addr) (ca : Nat) (t : Int) (w : World) (hA : SeqAt w a 3 (H.map HapD.cs)) (hn : H.length ≤ 2000) (hf : e.format.size ≤ 8000) (hl : ∀ t, (forceE e H t).letter.size ≤ 8000) (h3 : -86400 ≤ e.offset) (h4 : e.offset ≤ 86400) (h5 : ∀ t, -7200 ≤ (forceE e H t).save ∧ (forceE e H t).save ≤ 7200) :
    Calls Tryz.prog 167 #[e.v, .slice a H.length ca, .int .i64 t] w fun r W' => r = .returned (turnE e H t).v ∧ Below w.heap.size w W' := by
  have hB0 := ((Below.refl w.heap.size w).alloc (Nat.le_refl _) (.cells #[.int .i64 e.offset, .string e.rules, .int .i64 e.save, .string e.format, .int .i64 e.until_, .string e.of] 55)).alloc (by simp) (.cells #[.int .i64 0, .int .i64 0, .int .i64 0, .string ⟨#[]⟩] 53)
  have k0 : ((w.alloc (.cells #[.int .i64 e.offset, .string e.rules, .int .i64 e.save, .string e.format, .int .i64 e.until_, .string e.of] 55)).alloc (.cells #[.int .i64 0, .int .i64 0, .int .i64 0, .string ⟨#[]⟩] 53)).cell? ⟨w.heap.size, 0, none⟩ = some (.int .i64 e.offset) := by simp [go_sem]
  have k1 : ((w.alloc (.cells #[.int .i64 e.offset, .string e.rules, .int .i64 e.save, .string e.format, .int .i64 e.until_, .string e.of] 55)).alloc (.cells #[.int .i64 0, .int .i64 0, .int .i64 0, .string ⟨#[]⟩] 53)).cell? ⟨w.heap.size, 1, none⟩ = some (.string e.rules) := by simp [go_sem]
  have k2 : ((w.alloc (.cells #[.int .i64 e.offset, .string e.rules, .int .i64 e.save, .string e.format, .int .i64 e.until_, .string e.of] 55)).alloc (.cells #[.int .i64 0, .int .i64 0, .int .i64 0, .string ⟨#[]⟩] 53)).cell? ⟨w.heap.size, 2, none⟩ = some (.int .i64 e.save) := by simp [go_sem]
  have k3 : ((w.alloc (.cells #[.int .i64 e.offset, .string e.rules, .int .i64 e.save, .string e.format, .int .i64 e.until_, .string e.of] 55)).alloc (.cells #[.int .i64 0, .int .i64 0, .int .i64 0, .string ⟨#[]⟩] 53)).cell? ⟨w.heap.size, 3, none⟩ = some (.string e.format) := by simp [go_sem]
  have k4 : ((w.alloc (.cells #[.int .i64 e.offset, .string e.rules, .int .i64 e.save, .string e.format, .int .i64 e.until_, .string e.of] 55)).alloc (.cells #[.int .i64 0, .int .i64 0, .int .i64 0, .string ⟨#[]⟩] 53)).cell? ⟨w.heap.size, 4, none⟩ = some (.int .i64 e.until_) := by simp [go_sem]
  have k5 : ((w.alloc (.cells #[.int .i64 e.offset, .string e.rules, .int .i64 e.save, .string e.format, .int .i64 e.until_, .string e.of] 55)).alloc (.cells #[.int .i64 0, .int .i64 0, .int .i64 0, .string ⟨#[]⟩] 53)).cell? ⟨w.heap.size, 5, none⟩ = some (.string e.of) := by simp [go_sem]
  have r0 : ((w.alloc (.cells #[.int .i64 e.offset, .string e.rules, .int .i64 e.save, .string e.format, .int .i64 e.until_, .string e.of] 55)).alloc (.cells #[.int .i64 0, .int .i64 0, .int .i64 0, .string ⟨#[]⟩] 53)).cell? ⟨w.heap.size + 1, 0, none⟩ = some (.int .i64 0) := by simp [go_sem]
  have r1 : ((w.alloc (.cells #[.int .i64 e.offset, .string e.rules, .int .i64 e.save, .string e.format, .int .i64 e.until_, .string e.of] 55)).alloc (.cells #[.int .i64 0, .int .i64 0, .int .i64 0, .string ⟨#[]⟩] 53)).cell? ⟨w.heap.size + 1, 1, none⟩ = some (.int .i64 0) := by simp [go_sem]
  have r2 : ((w.alloc (.cells #[.int .i64 e.offset, .string e.rules, .int .i64 e.save, .string e.format, .int .i64 e.until_, .string e.of] 55)).alloc (.cells #[.int .i64 0, .int .i64 0, .int .i64 0, .string ⟨#[]⟩] 53)).cell? ⟨w.heap.size + 1, 2, none⟩ = some (.int .i64 0) := by simp [go_sem]
  have r3 : ((w.alloc (.cells #[.int .i64 e.offset, .string e.rules, .int .i64 e.save, .string e.format, .int .i64 e.until_, .string e.of] 55)).alloc (.cells #[.int .i64 0, .int .i64 0, .int .i64 0, .string ⟨#[]⟩] 53)).cell? ⟨w.heap.size + 1, 3, none⟩ = some (.string ⟨#[]⟩) := by simp [go_sem]
  have f0 : ∀ j, j < 4 → ((w.alloc (.cells #[.int .i64 e.offset, .string e.rules, .int .i64 e.save, .string e.format, .int .i64 e.until_, .string e.of] 55)).alloc (.cells #[.int .i64 0, .int .i64 0, .int .i64 0, .string ⟨#[]⟩] 53)).frozen? ⟨w.heap.size + 1, j, none⟩ = false := fun j hj => by simp [go_sem]
  have hMd := fun w => spec_l03Made e (forceE e H t) t w hf (hl t) h3 h4 (h5 t).1 (h5 t).2
  have HR : Hid (turnE e H t = madeE e (forceE e H t) t) := rfl
  by_cases h0 : e.rules.size = 0
  · have hr : e.rules = ⟨#[]⟩ := bytes_of (l := []) (by rw [← List.length_eq_zero_iff, size_data]; exact h0)
    rw [forceE_no h0] at hMd HR
    generalize madeE e ⟨0, e.save, ⟨#[]⟩⟩ t = X at *
    obtain ⟨xa, xo, xs, xb⟩ := X
    simp only [HapD.v, TurnD.v, EraD.v] at hMd
    rw [hr] at hMd hB0 k0 k1 k2 k3 k4 k5 r0 r1 r2 r3 f0
    unfold EraD.v
    go_enter Tryz.func167, Tryz.ntmps167
    go_wp2_with fail
    refine (hMd _).mono ?_
    rintro q w1 ⟨rfl, hb1⟩
    have s0 := keepC hb1 r0
    have s1 := keepC hb1 r1
    have s2 := keepC hb1 r2
    have s3 := keepC hb1 r3
    have z0 : w1.frozen? ⟨w.heap.size + 1, 0, none⟩ = false := ((bcell hb1).2 _ _ (World.block_lt_of_cell? _ _ r0)).trans (f0 0 (by omega))
    have z1 : w1.frozen? ⟨w.heap.size + 1, 1, none⟩ = false := ((bcell hb1).2 _ _ (World.block_lt_of_cell? _ _ r0)).trans (f0 1 (by omega))
    have z2 : w1.frozen? ⟨w.heap.size + 1, 2, none⟩ = false := ((bcell hb1).2 _ _ (World.block_lt_of_cell? _ _ r0)).trans (f0 2 (by omega))
    have z3 : w1.frozen? ⟨w.heap.size + 1, 3, none⟩ = false := ((bcell hb1).2 _ _ (World.block_lt_of_cell? _ _ r0)).trans (f0 3 (by omega))
    have hB1 := hB0.trans (hb1.mono (by simp; omega))
    obtain ⟨u0, u1, u2, u3⟩ := set_fourB (v0 := .int .i64 xa) (v1 := .int .i64 xo) (v2 := .int .i64 xs) (v3 := .string xb) s0 s1 s2 s3
    clear hb1
    go_wp2
    exact bodyPost_ret (v := .agg #[.int .i64 xa, .int .i64 xo, .int .i64 xs, .string xb]) (by simp [results, Tryz.results167, go_sem, u0, u1, u2, u3]) rfl ⟨by rw [HR.out]; rfl, (((hB1.setCell (show w.heap.size ≤ w.heap.size + 1 by omega) _).setCell (show w.heap.size ≤ w.heap.size + 1 by omega) _).setCell (show w.heap.size ≤ w.heap.size + 1 by omega) _).setCell (show w.heap.size ≤ w.heap.size + 1 by omega) _⟩
  · have hne : e.rules.toList.isEmpty = false := by
      cases h : e.rules.toList with
      | nil => exact absurd (by rw [toList_dataA] at h; rw [← size_data, h]; rfl) h0
      | cons x l => rfl
    have hFo := fun w (h : SeqAt w a 3 (H.map HapD.cs)) => spec_l03Force H a ca t w h hn
    rw [← forceE_yes (e := e) h0] at hFo
    generalize forceE e H t = F at *
    obtain ⟨fa, fs, fl⟩ := F
    generalize madeE e ⟨fa, fs, fl⟩ t = X at *
    obtain ⟨xa, xo, xs, xb⟩ := X
    simp only [HapD.v, TurnD.v, EraD.v] at hMd hFo
    unfold EraD.v
    go_enter Tryz.func167, Tryz.ntmps167
    go_wp2_with fail
    generalize ((w.alloc (.cells #[.int .i64 e.offset, .string e.rules, .int .i64 e.save, .string e.format, .int .i64 e.until_, .string e.of] 55)).alloc (.cells #[.int .i64 0, .int .i64 0, .int .i64 0, .string ⟨#[]⟩] 53)) = W0 at *
    have hBD : Below w.heap.size w W0.drew := hB0.trans ((below_drew W0).mono hB0.size)
    have hAD := hA.below hBD
    have hn2 : ¬ w.heap.size + 1 = w.heap.size := by omega
    have hn3 : ¬ w.heap.size = w.heap.size + 1 := by omega
    go_region_held3 (fun w' => w'.cell? ⟨w.heap.size, 0, none⟩ = some (.int .i64 e.offset) ∧ w'.cell? ⟨w.heap.size, 1, none⟩ = some (.string e.rules) ∧ w'.cell? ⟨w.heap.size, 2, none⟩ = some (.int .i64 e.save) ∧ w'.cell? ⟨w.heap.size, 3, none⟩ = some (.string e.format) ∧ w'.cell? ⟨w.heap.size, 4, none⟩ = some (.int .i64 e.until_) ∧ w'.cell? ⟨w.heap.size, 5, none⟩ = some (.string e.of)) (go_keep) (first | (go_at_call 201; refine (hFo _ hAD).mono ?_; rintro q w4 ⟨rfl, hb⟩; have q0 := keepC hb k0; have q1 := keepC hb k1; have q2 := keepC hb k2; have q3 := keepC hb k3; have q4 := keepC hb k4; have q5 := keepC hb k5) | (go_at_call 166; refine (hMd _).mono ?_; rintro q w5 ⟨rfl, hb5⟩; have p0 := keepC hb5 q0; have p1 := keepC hb5 q1; have p2 := keepC hb5 q2; have p3 := keepC hb5 q3; have p4 := keepC hb5 q4; have p5 := keepC hb5 q5; have s0 := keepC hb5 (keepC hb r0); have s1 := keepC hb5 (keepC hb r1); have s2 := keepC hb5 (keepC hb r2); have s3 := keepC hb5 (keepC hb r3); have z0 : w5.frozen? ⟨w.heap.size + 1, 0, none⟩ = false := ((bcell hb5).2 _ _ (World.block_lt_of_cell? _ _ (keepC hb r0))).trans (((bcell hb).2 _ _ (World.block_lt_of_cell? _ _ r0)).trans (f0 0 (by omega))); have z1 : w5.frozen? ⟨w.heap.size + 1, 1, none⟩ = false := ((bcell hb5).2 _ _ (World.block_lt_of_cell? _ _ (keepC hb r0))).trans (((bcell hb).2 _ _ (World.block_lt_of_cell? _ _ r0)).trans (f0 1 (by omega))); have z2 : w5.frozen? ⟨w.heap.size + 1, 2, none⟩ = false := ((bcell hb5).2 _ _ (World.block_lt_of_cell? _ _ (keepC hb r0))).trans (((bcell hb).2 _ _ (World.block_lt_of_cell? _ _ r0)).trans (f0 2 (by omega))); have z3 : w5.frozen? ⟨w.heap.size + 1, 3, none⟩ = false := ((bcell hb5).2 _ _ (World.block_lt_of_cell? _ _ (keepC hb r0))).trans (((bcell hb).2 _ _ (World.block_lt_of_cell? _ _ r0)).trans (f0 3 (by omega)))))
    all_goals
      go_wp2
      have hB4 : Below w.heap.size w w4 := hBD.trans (hb.mono hBD.size)
      have hB1 : Below w.heap.size w w5 := hB4.trans (hb5.mono hB4.size)
      obtain ⟨u0, u1, u2, u3⟩ := set_fourB (v0 := .int .i64 xa) (v1 := .int .i64 xo) (v2 := .int .i64 xs) (v3 := .string xb) s0 s1 s2 s3
      exact bodyPost_ret (v := .agg #[.int .i64 xa, .int .i64 xo, .int .i64 xs, .string xb]) (by simp [results, Tryz.results167, go_sem, u0, u1, u2, u3]) rfl ⟨by rw [HR.out]; rfl, (((hB1.setCell (show w.heap.size ≤ w.heap.size + 1 by omega) _).setCell (show w.heap.size ≤ w.heap.size + 1 by omega) _).setCell (show w.heap.size ≤ w.heap.size + 1 by omega) _).setCell (show w.heap.size ≤ w.heap.size + 1 by omega) _⟩
end Go.Proofs.YtbbhpfobcelbfaaGreatDoor
