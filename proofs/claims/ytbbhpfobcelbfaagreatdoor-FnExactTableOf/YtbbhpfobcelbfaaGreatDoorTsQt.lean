/- Packed: Ts3 Ts4. -/
import Derived.Test.YtbbhpfobcelbfaaGreatDoorTsPt
import Derived.Test.YtbbhpfobcelbfaaGreatDoorTbQt
import Derived.Test.YtbbhpfobcelbfaaGreatDoorHpQt
namespace Go.Proofs.YtbbhpfobcelbfaaGreatDoor
open Go.RowKit Go.Sort

set_option maxRecDepth 20000 in
set_option maxHeartbeats 4000000 in
theorem spec_l03Lows (H : List HapD) (a : Option Addr) (ca : Nat) (w : World) (hA : SeqAt w a 3 (H.map HapD.cs)) (hl : H.length ≤ 2000) (hH : ∀ h ∈ H, h.at_ ≤ 253402300799) :
    Calls Tryz.prog 164 #[.slice a H.length ca] w fun e w' => e = .returned (.slice (some ⟨w.heap.size, 0, none⟩) H.length H.length) ∧ LowAt w' w.heap.size (sufM H) 0 ∧ Below w.heap.size w w' := by
  obtain ⟨i0, hi, hz0, hz1, hz2⟩ := infoI64
  obtain ⟨w1, hrun, hown, hgr⟩ := run_make_full (P := Tryz.prog) w w.heap.size 77 2 i0 _ 1 Tryz.underlying77 hi hz0 hz1 .i64 .i64 H.length (by rw [hz2]; omega) (by unfold maxLen; omega) (Nat.le_refl _)
  have hR := room_of hown
  rw [Nat.mul_one] at hR
  have hB : Below w.heap.size w w1 := (Below.refl _ _).grown hgr (Nat.le_refl _) (fun k hk => by cases hk)
  have HE2 : Hid (∀ (k : Nat) (h : HapD), H[k]? = some h → (sufM H)[k]? = some (min (lowAt (sufM H) (k + 1)) h.at_)) := fun k h hh => sufM_at hh
  have HEl : Hid (∀ k, k < H.length → ∃ y, (sufM H)[k]? = some y) := fun k hk => ⟨_, List.getElem?_eq_getElem (by rw [sufM_len]; exact hk)⟩
  have HE3 : Hid (∀ k, ¬ k < H.length → lowAt (sufM H) k = 253402300799) := fun k hk => lowAt_end (by rw [sufM_len]; omega)
  have HH : Hid (∀ h ∈ H, h.at_ ≤ 253402300799) := hH
  have h00 : LowAt w1 w.heap.size (sufM H) H.length := fun i t h1 h2 => by have := (List.getElem?_eq_some_iff.mp h2).1; rw [sufM_len] at this; omega
  clear hH
  generalize sufM H = E at *
  clear hi hz0 hz1 hz2 hown hgr
  go_enter Tryz.func164, Tryz.ntmps164
  go_wp2
  go_loopw [4] (fun s4 wr => ∃ m : Nat, m ≤ H.length ∧ s4 = .int .i64 ((m : Int) - 1) ∧ LowAt wr w.heap.size E m ∧ Room wr w.heap.size H.length ∧ Below w.heap.size w wr) (fun s4 _ => (intOf s4 + 1).toNat)
  case atStart => exact ⟨H.length, Nat.le_refl _, rfl, h00, hR, hB⟩
  case round =>
    clear hR hB hrun h00
    obtain ⟨m, hm, hs4, hL, hR, hB⟩ := hrel
    cases m with
    | zero =>
      subst hs4
      go_wp2
      go_ret
      exact ⟨rfl, hL, hB⟩
    | succ k =>
      rw [show (((k + 1 : Nat) : Int) - 1) = (k : Int) by omega] at hs4
      subst hs4
      obtain ⟨x, hx⟩ : ∃ x, H[k]? = some x := ⟨_, List.getElem?_eq_getElem (by omega)⟩
      obtain ⟨b, o, rfl, hc⟩ := (hA.below hB).at (i := k) (r := x.cs) (by rw [List.getElem?_map, hx]; rfl)
      have c0 : wr.cell? ⟨b, o + k * 3, none⟩ = some (.int .i64 x.at_) := hc 0 _ rfl
      have hE := HE2.out k x hx
      have hxm := HH.out x (List.mem_of_getElem? hx)
      obtain ⟨⟨u0, hu0⟩, hf0⟩ := hR k (by omega)
      have hkl : (k : Int) < (H.length : Int) := by omega
      have hR1 := hR.set ⟨w.heap.size, k, none⟩ (.int .i64 x.at_)
      have hB1 : Below w.heap.size w (wr.setCell ⟨w.heap.size, k, none⟩ (.int .i64 x.at_)) := hB.setCell (Nat.le_refl _) _
      have k1 : (wr.setCell ⟨w.heap.size, k, none⟩ (.int .i64 x.at_)).cell? ⟨w.heap.size, k, none⟩ = some (.int .i64 x.at_) := World.cell?_setCell_same _ _ _ hu0
      have kf : (wr.setCell ⟨w.heap.size, k, none⟩ (.int .i64 x.at_)).frozen? ⟨w.heap.size, k, none⟩ = false := by rw [World.frozen?_setCell]; exact hf0
      by_cases hlast : k + 1 < H.length
      · obtain ⟨y, hy⟩ := HEl.out (k + 1) hlast
        rw [lowAt_in hy] at hE
        have cy : (wr.setCell ⟨w.heap.size, k, none⟩ (.int .i64 x.at_)).cell? ⟨w.heap.size, k + 1, none⟩ = some (.int .i64 y) := by
          rw [World.cell?_setCell_other _ _ _ _ (by simp)]
          exact hL (k + 1) y (by omega) hy
        have hgd : decide ((k : Int) + 1 < (H.length : Int)) = true := decide_eq_true (by omega)
        have hg2 : (k : Int) + 1 < (H.length : Int) := by omega
        by_cases hyx : y < x.at_
        · have hE' : E[k]? = some y := by rw [hE]; congr 1; omega
          have hd : decide (y < x.at_) = true := decide_eq_true hyx
          have hL2 : LowAt ((wr.setCell ⟨w.heap.size, k, none⟩ (.int .i64 x.at_)).drew.setCell ⟨w.heap.size, k, none⟩ (.int .i64 y)) w.heap.size E k := fun i u hi hu => by
            by_cases e : i = k
            · subst e
              rw [hE'] at hu; injection hu with hu; subst hu
              exact World.cell?_setCell_same _ _ _ k1
            · rw [World.cell?_setCell_other _ _ _ _ (by simp)]
              show (wr.setCell ⟨w.heap.size, k, none⟩ (.int .i64 x.at_)).cell? ⟨w.heap.size, i, none⟩ = _
              rw [World.cell?_setCell_other _ _ _ _ (by simp)]
              exact hL i u (by omega) hu
          have HL2 : Hid (LowAt ((wr.setCell ⟨w.heap.size, k, none⟩ (.int .i64 x.at_)).drew.setCell ⟨w.heap.size, k, none⟩ (.int .i64 y)) w.heap.size E k) := hL2
          have hR2 : Room ((wr.setCell ⟨w.heap.size, k, none⟩ (.int .i64 x.at_)).drew.setCell ⟨w.heap.size, k, none⟩ (.int .i64 y)) w.heap.size H.length := Room.set (w := (wr.setCell ⟨w.heap.size, k, none⟩ (.int .i64 x.at_)).drew) hR1 _ _
          clear hc hx hE hE' hL2 hL hR hy
          go_wp2_with fail
          go_quiet (fail)
          go_wp2
          go_roundw
          case rel => exact ⟨k, by omega, by rfl, HL2.out, hR2, (below_drewN hB1 _).setCell (Nat.le_refl _) _⟩
          case measure => simp [intOf]
        · have hE' : E[k]? = some x.at_ := by rw [hE]; congr 1; omega
          have hd : decide (y < x.at_) = false := decide_eq_false hyx
          have HL2 : Hid (LowAt (wr.setCell ⟨w.heap.size, k, none⟩ (.int .i64 x.at_)).drew w.heap.size E k) := (hL.set hR (by omega) hE').below (below_drew _)
          have hR2 : Room (wr.setCell ⟨w.heap.size, k, none⟩ (.int .i64 x.at_)).drew w.heap.size H.length := hR1
          clear hc hx hE hE' hL hR hy
          go_wp2_with fail
          go_quiet (fail)
          go_wp2
          go_roundw
          case rel => exact ⟨k, by omega, by rfl, HL2.out, hR2, below_drewN hB1 _⟩
          case measure => simp [intOf]
      · have hE' : E[k]? = some x.at_ := by rw [hE, HE3.out (k + 1) hlast]; congr 1; omega
        have hgd : decide ((k : Int) + 1 < (H.length : Int)) = false := decide_eq_false (by omega)
        have HL2 : Hid (LowAt (wr.setCell ⟨w.heap.size, k, none⟩ (.int .i64 x.at_)).drew w.heap.size E k) := (hL.set hR (by omega) hE').below (below_drew _)
        have hR2 : Room (wr.setCell ⟨w.heap.size, k, none⟩ (.int .i64 x.at_)).drew w.heap.size H.length := hR1
        clear hc hx hE hE' hL hR
        go_wp2_with fail
        go_quiet (fail)
        go_wp2
        go_roundw
        case rel => exact ⟨k, by omega, by rfl, HL2.out, hR2, below_drewN hB1 _⟩
        case measure => simp [intOf]
end Go.Proofs.YtbbhpfobcelbfaaGreatDoor
namespace Go.Proofs.YtbbhpfobcelbfaaGreatDoor
open Go.RowKit Go.Sort

/-- where an era ends, as the model tells it. -/
def endS (e : EraD) (H : List HapD) (b : Int) : Int := if e.until_ = 253402300799 then 253402300799 else endE e H b
set_option maxRecDepth 20000 in
set_option maxHeartbeats 4000000 in
theorem spec_l03End (e : EraD) (H : List HapD) (a : Option Addr) (ca : Nat) (b : Int) (w : World) (hA : SeqAt w a 3 (H.map HapD.cs)) (hn : H.length ≤ 2000) (hf : e.format.size ≤ 8000) (hl : ∀ t, (forceE e H t).letter.size ≤ 8000) (h1 : -62135596800 ≤ e.until_) (h2 : e.until_ ≤ 253402300799) (h3 : -86400 ≤ e.offset) (h4 : e.offset ≤ 86400) (h5 : ∀ t, -7200 ≤ (forceE e H t).save ∧ (forceE e H t).save ≤ 7200) (hb : b ≤ 253402300799) :
    Calls Tryz.prog 162 #[e.v, .slice a H.length ca, .int .i64 b] w fun r W' => r = .returned (.int .i64 (endS e H b)) ∧ Below w.heap.size w W' := by
  have hB0 := (Below.refl w.heap.size w).alloc (Nat.le_refl _) (.cells #[.int .i64 e.offset, .string e.rules, .int .i64 e.save, .string e.format, .int .i64 e.until_, .string e.of] 55)
  have hMx := fun x y w => spec_l01MaxR x y w
  have hMn := fun x y w => spec_l01MinR x y w
  by_cases hu : e.until_ = 253402300799
  · have HR : Hid (endS e H b = 253402300799) := if_pos hu
    unfold EraD.v
    rw [hu] at hB0 ⊢
    go_enter Tryz.func162, Tryz.ntmps162
    go_wp2
    go_ret
    exact ⟨ret_int HR.out.symm, hB0⟩
  have HE : Hid (endS e H b = endE e H b) := if_neg hu
  have hun : (e.until_ == 253402300799) = false := by simpa using hu
  cases hs : (e.of.toList == [115])
  · cases hw : (e.of.toList == [119])
    · have HR : Hid (endS e H b = min 253402300799 (max b e.until_)) := by simp only [Hid]; rw [HE.out]; simp only [endE, endU]; rw [hs, hw]; simp only [Bool.false_eq_true, if_false]; omega
      unfold EraD.v
      go_enter Tryz.func162, Tryz.ntmps162
      go_wp2_with fail
      refine (hMx _ _ _).mono ?_
      rintro q w1 ⟨rfl, hw1⟩
      have hw1 := hw1.symm
      subst hw1
      go_wp2_with fail
      refine (hMn _ _ _).mono ?_
      rintro q w1 ⟨rfl, hw1⟩
      have hw1 := hw1.symm
      subst hw1
      go_wp2
      go_ret
      exact ⟨ret_int HR.out.symm, hB0⟩
    · have HR : Hid (endS e H b = min 253402300799 (max b (e.until_ - (turnE e H (e.until_ - e.offset - 1)).offset))) := by
        simp only [Hid]; rw [HE.out]; simp only [endE, endU, turnE, madeE]; rw [hs, hw]; simp only [Bool.false_eq_true, if_false, if_true]; omega
      have hTn := fun w (h : SeqAt w a 3 (H.map HapD.cs)) => spec_l03Turn e H a ca (e.until_ - e.offset - 1) w h hn hf hl h3 h4 h5
      have hob : -100000 ≤ (turnE e H (e.until_ - e.offset - 1)).offset ∧ (turnE e H (e.until_ - e.offset - 1)).offset ≤ 100000 := by
        have := h5 (e.until_ - e.offset - 1)
        simp only [turnE, madeE]
        omega
      generalize turnE e H (e.until_ - e.offset - 1) = X at *
      obtain ⟨xa, xo, xs, xb⟩ := X
      simp only [TurnD.v, EraD.v] at hTn
      simp only at HR hob
      have hfd : ∀ w, (Instr.field 53 (.agg #[.int .i64 xa, .int .i64 xo, .int .i64 xs, .string xb]) 1).run Tryz.prog w = .ok (.int .i64 xo) w := fun _ => by kernel_rfl
      have k0 : (w.alloc (.cells #[.int .i64 e.offset, .string e.rules, .int .i64 e.save, .string e.format, .int .i64 e.until_, .string e.of] 55)).cell? ⟨w.heap.size, 0, none⟩ = some (.int .i64 e.offset) := by simp [go_sem]
      have k1 : (w.alloc (.cells #[.int .i64 e.offset, .string e.rules, .int .i64 e.save, .string e.format, .int .i64 e.until_, .string e.of] 55)).cell? ⟨w.heap.size, 1, none⟩ = some (.string e.rules) := by simp [go_sem]
      have k2 : (w.alloc (.cells #[.int .i64 e.offset, .string e.rules, .int .i64 e.save, .string e.format, .int .i64 e.until_, .string e.of] 55)).cell? ⟨w.heap.size, 2, none⟩ = some (.int .i64 e.save) := by simp [go_sem]
      have k3 : (w.alloc (.cells #[.int .i64 e.offset, .string e.rules, .int .i64 e.save, .string e.format, .int .i64 e.until_, .string e.of] 55)).cell? ⟨w.heap.size, 3, none⟩ = some (.string e.format) := by simp [go_sem]
      have k4 : (w.alloc (.cells #[.int .i64 e.offset, .string e.rules, .int .i64 e.save, .string e.format, .int .i64 e.until_, .string e.of] 55)).cell? ⟨w.heap.size, 4, none⟩ = some (.int .i64 e.until_) := by simp [go_sem]
      have k5 : (w.alloc (.cells #[.int .i64 e.offset, .string e.rules, .int .i64 e.save, .string e.format, .int .i64 e.until_, .string e.of] 55)).cell? ⟨w.heap.size, 5, none⟩ = some (.string e.of) := by simp [go_sem]
      unfold EraD.v
      go_enter Tryz.func162, Tryz.ntmps162
      go_wp2_with fail
      generalize (w.alloc (.cells #[.int .i64 e.offset, .string e.rules, .int .i64 e.save, .string e.format, .int .i64 e.until_, .string e.of] 55)) = W0 at *
      have hBD : Below w.heap.size w W0.drew := hB0.trans ((below_drew W0).mono hB0.size)
      have hAD := hA.below hBD
      have hwr1 : IntKind.i64.wrap (e.until_ - e.offset) = e.until_ - e.offset := by rw [IntKind.wrap_i64]; omega
      have hwr2 : IntKind.i64.wrap (e.until_ - e.offset - 1) = e.until_ - e.offset - 1 := by rw [IntKind.wrap_i64]; omega
      have hwr3 : IntKind.i64.wrap (e.until_ - xo) = e.until_ - xo := by rw [IntKind.wrap_i64]; omega
      go_region_held3 (fun w' => w'.cell? ⟨w.heap.size, 0, none⟩ = some (.int .i64 e.offset) ∧ w'.cell? ⟨w.heap.size, 1, none⟩ = some (.string e.rules) ∧ w'.cell? ⟨w.heap.size, 2, none⟩ = some (.int .i64 e.save) ∧ w'.cell? ⟨w.heap.size, 3, none⟩ = some (.string e.format) ∧ w'.cell? ⟨w.heap.size, 4, none⟩ = some (.int .i64 e.until_) ∧ w'.cell? ⟨w.heap.size, 5, none⟩ = some (.string e.of)) (go_keep) ((go_at_call 167; refine (hTn _ hAD).mono ?_; rintro q w4 ⟨rfl, hb4⟩; have q0 := keepC hb4 k0; have q1 := keepC hb4 k1; have q2 := keepC hb4 k2; have q3 := keepC hb4 k3; have q4 := keepC hb4 k4; have q5 := keepC hb4 k5))
      all_goals
        have hB4 : Below w.heap.size w w4 := hBD.trans (hb4.mono hBD.size)
        go_wp2_with fail
        refine (hMx _ _ _).mono ?_
        rintro q w5 ⟨rfl, hw5⟩
        have hw5 := hw5.symm
        subst hw5
        go_wp2_with fail
        refine (hMn _ _ _).mono ?_
        rintro q w6 ⟨rfl, hw6⟩
        have hw6 := hw6.symm
        subst hw6
        go_wp2
        go_ret
        exact ⟨ret_int HR.out.symm, hB4⟩
  · have HR : Hid (endS e H b = min 253402300799 (max b (e.until_ - e.offset))) := by simp only [Hid]; rw [HE.out]; simp only [endE, endU]; rw [hs]; simp only [if_true]; omega
    unfold EraD.v
    go_enter Tryz.func162, Tryz.ntmps162
    go_wp2_with fail
    refine (hMx _ _ _).mono ?_
    rintro q w1 ⟨rfl, hw1⟩
    have hw1 := hw1.symm
    subst hw1
    go_wp2_with fail
    refine (hMn _ _ _).mono ?_
    rintro q w1 ⟨rfl, hw1⟩
    have hw1 := hw1.symm
    subst hw1
    go_wp2
    go_ret
    exact ⟨ret_int HR.out.symm, hB0⟩
end Go.Proofs.YtbbhpfobcelbfaaGreatDoor
