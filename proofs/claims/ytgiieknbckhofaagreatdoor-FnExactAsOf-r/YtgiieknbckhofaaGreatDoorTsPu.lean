/- Packed. -/
import Derived.Test.YtgiieknbckhofaaGreatDoorTbPu
set_option maxRecDepth 20000
set_option maxHeartbeats 20000000
set_option linter.unusedSimpArgs false
namespace Go.Proofs.YtgiieknbckhofaaGreatDoor
section
open Go.RowKit Go.Sort
theorem jlp (H : List HapD) (a : Option Addr) (ca : Nat) (t : Int) (w : World) (hA : Za w a 3 (H.map HapD.cs)) (hl : H.length <= 2000) :
  Cl 230 #[.slice a H.length ca, iv t] w fun e w' => e = .returned (jdh H (hcnt H t)).v /\ Bw w w' := by
 have HA : Hid (∀ (k : Nat) (x : HapD), H[k]? = some x -> x.save = 0 -> (∀ j y, j < k -> H[j]? = some y -> y.save ≠ 0) -> jb5 H = x.letter) := fun k x h1 h2 h3 => jo3 h1 h2 h3
 have HN : Hid ((∀ j y, j < H.length -> H[j]? = some y -> y.save ≠ 0) -> jb5 H = ⟨#[]⟩) := fun h => jjs fun x hx => by
  obtain ⟨j, hj⟩ := lgo hx
  exact h j x (lgs hj).1 hj
 have ag := qal w (.cells #[iv 0, iv 0, .string ⟨#[]⟩] 254)
 have eM := hA.below ag
 obtain ⟨r0, r1, r2, f0, f1, f2⟩ : (fun z : World => z.cell? (ad w.heap.size 0) = some (iv 0) /\ z.cell? (ad w.heap.size 1) = some (iv 0) /\ z.cell? (ad w.heap.size 2) = some (.string ⟨#[]⟩) /\ z.frozen? (ad w.heap.size 0) = false /\ z.frozen? (ad w.heap.size 1) = false /\ z.frozen? (ad w.heap.size 2) = false) (w.alloc (.cells #[iv 0, iv 0, .string ⟨#[]⟩] 254)) := by simp [go_sem]
 have Ih : Hid (∀ k x, jdx H t (k + 1) = hcnt H t -> H[k]? = some x -> x.at_ <= t -> jdh H (hcnt H t) = x) := fun k x h1 h2 h3 => by
  rw [<- h1, jox h2 h3]
  simp only [jdh]
  rw [h2]
  rfl
 have yF : Hid (jdx H t 0 = hcnt H t -> jdh H (hcnt H t) = ⟨0, 0, jb5 H⟩) := fun h => by rw [<- h]; rfl
 have xd : Hid (jdx H t H.length = hcnt H t) := rfl
 generalize hF : jdh H (hcnt H t) = F at *
 clear hF
 generalize hcnt H t = c at *
 go_enter Tryz.func230, Tryz.ntmps230
 go_wp2
 generalize (w.alloc (.cells #[iv 0, iv 0, .string ⟨#[]⟩] 254)) = W at *
 go_loopw [5] (fun s5 wr => ∃ m : Nat, m <= H.length /\ s5 = iv ((m : Int) - 1) /\ Hid (jdx H t m = c) /\ wr = W) (fun s5 _ => (intOf s5 + 1).toNat)
 case atStart => exact ⟨H.length, nlr _, rfl, xd, rfl⟩
 case round =>
  obtain ⟨m, hm, gP, hC, hw⟩ := hrel
  subst hw
  cases m with
  | zero =>
   subst gP
   have HF : Hid (F = ⟨0, 0, jb5 H⟩) := yF.out hC.out
   go_wp2
   go_loopw [6] (fun s6 wq => ∃ k : Nat, k <= H.length /\ s6 = iv k /\ Hid (∀ j y, j < k -> H[j]? = some y -> y.save ≠ 0) /\ wq = wr) (fun s6 _ => H.length - (intOf s6).toNat)
   case atStart => exact ⟨0, by omega, rfl, fun j y h => by omega, rfl⟩
   case round =>
    obtain ⟨k, hk, rfl, hN, hw⟩ := hrel
    subst hw
    by_cases hlt : k < H.length
    ·obtain ⟨x, hx⟩ := qgg hlt
     obtain ⟨b, o, rfl, hc⟩ := eM.at (i := k) (r := x.cs) (by rw [lgm, hx]; rfl)
     have c1 := hc 1 _ rfl
     have c2 := hc 2 _ rfl
     have fe : (k : Int) < (H.length : Int) := by omega
     by_cases h0 : x.save = 0
     ·have HR : Hid (F = ⟨0, 0, x.letter⟩) := by simp only [Hid]; rw [HF.out, HA.out k x hx h0 hN.out]
      rw [h0] at c1
      clear hc hx hN
      obtain ⟨s0, s1, s2⟩ := jdc (v0 := iv 0) (v1 := iv 0) (v2 := .string x.letter) r0 r1 r2
      go_wp2
      exact bpr (v := .agg #[iv 0, iv 0, .string x.letter]) (by simp [results, Tryz.results230, go_sem, s0, s1, s2]) rfl ⟨by rw [HR.out]; rfl, ((ag.setCell (nlr _) _).setCell (nlr _) _).setCell (nlr _) _⟩
     ·have HR : Hid (∀ j y, j < k + 1 -> H[j]? = some y -> y.save ≠ 0) := fun j y hj hy => by
       by_cases e : j = k
       ·subst e; rw [hx] at hy; injection hy with hy; subst hy; exact h0
       ·exact hN.out j y (by omega) hy
      clear hc hx hN
      go_wp2
      go_roundw
      case rel => exact ⟨k + 1, by omega, by go_num, HR, trivial⟩
      case measure => simp [intOf]; omega
    ·have HR : Hid (F = ⟨0, 0, ⟨#[]⟩⟩) := by simp only [Hid]; rw [HF.out, HN.out fun j y hj hy => hN.out j y (by omega) hy]
     have fe : ¬ (k : Int) < (H.length : Int) := by omega
     obtain ⟨s0, s1, s2⟩ := jdc (v0 := iv 0) (v1 := iv 0) (v2 := .string ⟨#[]⟩) r0 r1 r2
     clear hN
     go_wp2
     exact bpr (v := .agg #[iv 0, iv 0, .string ⟨#[]⟩]) (by simp [results, Tryz.results230, go_sem, s0, s1, s2]) rfl ⟨by rw [HR.out]; rfl, ((ag.setCell (nlr _) _).setCell (nlr _) _).setCell (nlr _) _⟩
  | succ k =>
   rw [show (((k + 1 : Nat) : Int) - 1) = (k : Int) by omega] at gP
   subst gP
   obtain ⟨x, hx⟩ : ∃ x, H[k]? = some x := ⟨_, lgg (by omega)⟩
   obtain ⟨b, o, rfl, hc⟩ := eM.at (i := k) (r := x.cs) (by rw [lgm, hx]; rfl)
   have c0 : wr.cell? (ad b (o + k * 3)) = some (iv x.at_) := hc 0 _ rfl
   have c1 := hc 1 _ rfl
   have c2 := hc 2 _ rfl
   have fe : (k : Int) < (H.length : Int) := by omega
   by_cases ht : x.at_ <= t
   ·have HR : Hid (F = x) := Ih.out k x hC.out hx ht
    obtain ⟨s0, s1, s2⟩ := jdc (v0 := iv x.at_) (v1 := iv x.save) (v2 := .string x.letter) r0 r1 r2
    clear hc hx hC
    go_wp2
    exact bpr (v := .agg #[iv x.at_, iv x.save, .string x.letter]) (by simp [results, Tryz.results230, go_sem, s0, s1, s2]) rfl ⟨by rw [HR.out]; rfl, ((ag.setCell (nlr _) _).setCell (nlr _) _).setCell (nlr _) _⟩
   ·have HC : Hid (jdx H t k = c) := by simp only [Hid]; rw [<- jt1 hx (by omega)]; exact hC.out
    clear hc hx hC
    go_wp2
    go_roundw
    case rel => exact ⟨k, by omega, rfl, HC, trivial⟩
    case measure => simp [intOf]
end
section
open Go.RowKit Go.Sort
theorem jgm (e : EraD) (F : HapD) (t : Int) (w : World) (hf : e.format.size <= 8000) (hl : F.letter.size <= 8000) (h3 : -86400 <= e.offset) (h4 : e.offset <= 86400) (h5 : -7200 <= F.save) (h6 : F.save <= 7200) :
  Cl 197 #[e.v, F.v, iv t] w fun r W' => r = .returned (jdo e F t).v /\ Bw w W' := by
 have hA : ∀ w, Cl 229 #[.string e.format, .string F.letter, iv F.save] w fun r w' => r = .returned (.string (jkk e.format F.letter F.save)) /\ Bw w w' := fun w => (jnc e.format F.letter F.save w hf hl).mono (by
  rintro r w' ⟨rfl, n, rfl⟩
  exact ⟨by rw [jjx ⟨hf, hl⟩], below_drewN (brf _ _) _⟩)
 have HR : Hid ((jdo e F t).v = .agg #[iv t, iv (e.offset + F.save), iv F.save, .string (jkk e.format F.letter F.save)]) := rfl
 generalize jkk e.format F.letter F.save = ab at *
 generalize (jdo e F t).v = RV at *
 have ag := (((qal w (.cells #[iv e.offset, .string e.rules, iv e.save, .string e.format, iv e.until_, .string e.of] 178)).alloc (by simp) (.cells #[iv F.at_, iv F.save, .string F.letter] 254)).alloc (by simp; omega) (.cells #[iv 0, iv 0, iv 0, .string ⟨#[]⟩] 220))
 obtain ⟨k0, k3, l1, l2, r0, r1, r2, r3⟩ : (fun z : World => z.cell? (ad w.heap.size 0) = some (iv e.offset) /\ z.cell? (ad w.heap.size 3) = some (.string e.format) /\ z.cell? (ad (w.heap.size + 1) 1) = some (iv F.save) /\ z.cell? (ad (w.heap.size + 1) 2) = some (.string F.letter) /\ z.cell? (ad (w.heap.size + 1 + 1) 0) = some (iv 0) /\ z.cell? (ad (w.heap.size + 1 + 1) 1) = some (iv 0) /\ z.cell? (ad (w.heap.size + 1 + 1) 2) = some (iv 0) /\ z.cell? (ad (w.heap.size + 1 + 1) 3) = some (.string ⟨#[]⟩)) (((w.alloc (.cells #[iv e.offset, .string e.rules, iv e.save, .string e.format, iv e.until_, .string e.of] 178)).alloc (.cells #[iv F.at_, iv F.save, .string F.letter] 254)).alloc (.cells #[iv 0, iv 0, iv 0, .string ⟨#[]⟩] 220)) := by simp [go_sem]
 have f0 : ∀ j, j < 4 -> (((w.alloc (.cells #[iv e.offset, .string e.rules, iv e.save, .string e.format, iv e.until_, .string e.of] 178)).alloc (.cells #[iv F.at_, iv F.save, .string F.letter] 254)).alloc (.cells #[iv 0, iv 0, iv 0, .string ⟨#[]⟩] 220)).frozen? (ad (w.heap.size + 1 + 1) j) = false := fun j hj => by simp [go_sem]
 unfold EraD.v HapD.v
 go_enter Tryz.func197, Tryz.ntmps197
 go_wp2_with fail
 generalize (((w.alloc (.cells #[iv e.offset, .string e.rules, iv e.save, .string e.format, iv e.until_, .string e.of] 178)).alloc (.cells #[iv F.at_, iv F.save, .string F.letter] 254)).alloc (.cells #[iv 0, iv 0, iv 0, .string ⟨#[]⟩] 220)) = W at *
 have ch : Bw w W.drew := ag.trans ((jac W).mono ag.size)
 have gO : ¬ w.heap.size + 1 + 1 = w.heap.size := by omega
 have vq : ¬ w.heap.size = w.heap.size + 1 + 1 := by omega
 have Lw : IntKind.i64.wrap (e.offset + F.save) = e.offset + F.save := by rw [IntKind.wrap_i64]; omega
 go_region_held3 (fun w' => w'.cell? (ad w.heap.size 0) = some (iv e.offset) /\ w'.cell? (ad w.heap.size 3) = some (.string e.format) /\ w'.cell? (ad (w.heap.size + 1) 1) = some (iv F.save) /\ w'.cell? (ad (w.heap.size + 1) 2) = some (.string F.letter)) (go_keep) ((go_at_call 229; refine (hA _).mono ?_; rintro r w4 ⟨rfl, hb⟩; have q0 := jaa hb k0; have q3 := jaa hb k3; have p1 := jaa hb l1; have p2 := jaa hb l2; have s0 := jaa hb r0; have s1 := jaa hb r1; have s2 := jaa hb r2; have s3 := jaa hb r3; have z0 : w4.frozen? (ad (w.heap.size + 1 + 1) 0) = false := ((jaf hb).2 _ _ (qbl r0)).trans (f0 0 (by omega)); have z1 : w4.frozen? (ad (w.heap.size + 1 + 1) 1) = false := ((jaf hb).2 _ _ (qbl r0)).trans (f0 1 (by omega)); have z2 : w4.frozen? (ad (w.heap.size + 1 + 1) 2) = false := ((jaf hb).2 _ _ (qbl r0)).trans (f0 2 (by omega)); have z3 : w4.frozen? (ad (w.heap.size + 1 + 1) 3) = false := ((jaf hb).2 _ _ (qbl r0)).trans (f0 3 (by omega))))
 all_goals
  go_wp2
  have hB : Bw w w4 := qtr ch hb
  obtain ⟨u0, u1, u2, u3⟩ := jfj (v0 := iv t) (v1 := iv (e.offset + F.save)) (v2 := iv F.save) (v3 := .string ab) s0 s1 s2 s3
  exact bpr (v := .agg #[iv t, iv (e.offset + F.save), iv F.save, .string ab]) (by simp [results, Tryz.results197, go_sem, u0, u1, u2, u3]) rfl ⟨by rw [HR.out], (((hB.setCell (show w.heap.size <= w.heap.size + 1 + 1 by omega) _).setCell (show w.heap.size <= w.heap.size + 1 + 1 by omega) _).setCell (show w.heap.size <= w.heap.size + 1 + 1 by omega) _).setCell (show w.heap.size <= w.heap.size + 1 + 1 by omega) _⟩
theorem jgl (e : EraD) (H : List HapD) (a : Option Addr) (ca : Nat) (t : Int) (w : World) (hA : Za w a 3 (H.map HapD.cs)) (hn : H.length <= 2000) (hf : e.format.size <= 8000) (hl : ∀ t, (jas e H t).letter.size <= 8000) (h3 : -86400 <= e.offset) (h4 : e.offset <= 86400) (h5 : ∀ t, -7200 <= (jas e H t).save /\ (jas e H t).save <= 7200) :
  Cl 198 #[e.v, .slice a H.length ca, iv t] w fun r W' => r = .returned (turnE e H t).v /\ Bw w W' := by
 have ag := (qal w (.cells #[iv e.offset, .string e.rules, iv e.save, .string e.format, iv e.until_, .string e.of] 178)).alloc (by simp) (.cells #[iv 0, iv 0, iv 0, .string ⟨#[]⟩] 220)
 obtain ⟨k0, k1, k2, k3, k4, k5, r0, r1, r2, r3⟩ : (fun z : World => z.cell? (ad w.heap.size 0) = some (iv e.offset) /\ z.cell? (ad w.heap.size 1) = some (.string e.rules) /\ z.cell? (ad w.heap.size 2) = some (iv e.save) /\ z.cell? (ad w.heap.size 3) = some (.string e.format) /\ z.cell? (ad w.heap.size 4) = some (iv e.until_) /\ z.cell? (ad w.heap.size 5) = some (.string e.of) /\ z.cell? (ad (w.heap.size + 1) 0) = some (iv 0) /\ z.cell? (ad (w.heap.size + 1) 1) = some (iv 0) /\ z.cell? (ad (w.heap.size + 1) 2) = some (iv 0) /\ z.cell? (ad (w.heap.size + 1) 3) = some (.string ⟨#[]⟩)) ((w.alloc (.cells #[iv e.offset, .string e.rules, iv e.save, .string e.format, iv e.until_, .string e.of] 178)).alloc (.cells #[iv 0, iv 0, iv 0, .string ⟨#[]⟩] 220)) := by simp [go_sem]
 have f0 : ∀ j, j < 4 -> ((w.alloc (.cells #[iv e.offset, .string e.rules, iv e.save, .string e.format, iv e.until_, .string e.of] 178)).alloc (.cells #[iv 0, iv 0, iv 0, .string ⟨#[]⟩] 220)).frozen? (ad (w.heap.size + 1) j) = false := fun j hj => by simp [go_sem]
 have kD := fun w => jgm e (jas e H t) t w hf (hl t) h3 h4 (h5 t).1 (h5 t).2
 have HR : Hid (turnE e H t = jdo e (jas e H t) t) := rfl
 by_cases h0 : e.rules.size = 0
 ·have hr : e.rules = ⟨#[]⟩ := jfx (l := []) (by rw [<- List.length_eq_zero_iff, jah]; exact h0)
  rw [jjp h0] at kD HR
  generalize jdo e ⟨0, e.save, ⟨#[]⟩⟩ t = X at *
  obtain ⟨xa, xo, xs, xb⟩ := X
  simp only [HapD.v, TurnD.v, EraD.v] at kD
  rw [hr] at kD ag k0 k1 k2 k3 k4 k5 r0 r1 r2 r3 f0
  unfold EraD.v
  go_enter Tryz.func198, Tryz.ntmps198
  go_wp2_with fail
  refine (kD _).mono ?_
  rintro q w1 ⟨rfl, hb1⟩
  have s0 := jaa hb1 r0
  have s1 := jaa hb1 r1
  have s2 := jaa hb1 r2
  have s3 := jaa hb1 r3
  have z0 : w1.frozen? (ad (w.heap.size + 1) 0) = false := ((jaf hb1).2 _ _ (qbl r0)).trans (f0 0 (by omega))
  have z1 : w1.frozen? (ad (w.heap.size + 1) 1) = false := ((jaf hb1).2 _ _ (qbl r0)).trans (f0 1 (by omega))
  have z2 : w1.frozen? (ad (w.heap.size + 1) 2) = false := ((jaf hb1).2 _ _ (qbl r0)).trans (f0 2 (by omega))
  have z3 : w1.frozen? (ad (w.heap.size + 1) 3) = false := ((jaf hb1).2 _ _ (qbl r0)).trans (f0 3 (by omega))
  have aj := ag.trans (hb1.mono (by simp; omega))
  obtain ⟨u0, u1, u2, u3⟩ := jfj (v0 := iv xa) (v1 := iv xo) (v2 := iv xs) (v3 := .string xb) s0 s1 s2 s3
  clear hb1
  go_wp2
  exact bpr (v := .agg #[iv xa, iv xo, iv xs, .string xb]) (by simp [results, Tryz.results198, go_sem, u0, u1, u2, u3]) rfl ⟨by rw [HR.out]; rfl, (((aj.setCell (show w.heap.size <= w.heap.size + 1 by omega) _).setCell (show w.heap.size <= w.heap.size + 1 by omega) _).setCell (show w.heap.size <= w.heap.size + 1 by omega) _).setCell (show w.heap.size <= w.heap.size + 1 by omega) _⟩
 ·have az : e.rules.toList.isEmpty = false := by
   cases h : e.rules.toList with
   | nil => exact absurd (by rw [toList_dataA] at h; rw [<- jah, h]; rfl) h0
   | cons x l => rfl
  have Bj := fun w (h : Za w a 3 (H.map HapD.cs)) => jlp H a ca t w h hn
  rw [<- jel (e := e) h0] at Bj
  generalize jas e H t = F at *
  obtain ⟨fa, fs, fl⟩ := F
  generalize jdo e ⟨fa, fs, fl⟩ t = X at *
  obtain ⟨xa, xo, xs, xb⟩ := X
  simp only [HapD.v, TurnD.v, EraD.v] at kD Bj
  unfold EraD.v
  go_enter Tryz.func198, Tryz.ntmps198
  go_wp2_with fail
  generalize ((w.alloc (.cells #[iv e.offset, .string e.rules, iv e.save, .string e.format, iv e.until_, .string e.of] 178)).alloc (.cells #[iv 0, iv 0, iv 0, .string ⟨#[]⟩] 220)) = W0 at *
  have ch : Bw w W0.drew := ag.trans ((jac W0).mono ag.size)
  have AS := hA.below ch
  have gO : ¬ w.heap.size + 1 = w.heap.size := by omega
  have vq : ¬ w.heap.size = w.heap.size + 1 := by omega
  go_region_held3 (fun w' => w'.cell? (ad w.heap.size 0) = some (iv e.offset) /\ w'.cell? (ad w.heap.size 1) = some (.string e.rules) /\ w'.cell? (ad w.heap.size 2) = some (iv e.save) /\ w'.cell? (ad w.heap.size 3) = some (.string e.format) /\ w'.cell? (ad w.heap.size 4) = some (iv e.until_) /\ w'.cell? (ad w.heap.size 5) = some (.string e.of)) (go_keep) (first | (go_at_call 230; refine (Bj _ AS).mono ?_; rintro q w4 ⟨rfl, hb⟩; have q0 := jaa hb k0; have q1 := jaa hb k1; have q2 := jaa hb k2; have q3 := jaa hb k3; have q4 := jaa hb k4; have q5 := jaa hb k5) | (go_at_call 197; refine (kD _).mono ?_; rintro q w5 ⟨rfl, aW⟩; have p0 := jaa aW q0; have p1 := jaa aW q1; have p2 := jaa aW q2; have p3 := jaa aW q3; have p4 := jaa aW q4; have p5 := jaa aW q5; have s0 := jaa aW (jaa hb r0); have s1 := jaa aW (jaa hb r1); have s2 := jaa aW (jaa hb r2); have s3 := jaa aW (jaa hb r3); have z0 : w5.frozen? (ad (w.heap.size + 1) 0) = false := ((jaf aW).2 _ _ (qbl (jaa hb r0))).trans (((jaf hb).2 _ _ (qbl r0)).trans (f0 0 (by omega))); have z1 : w5.frozen? (ad (w.heap.size + 1) 1) = false := ((jaf aW).2 _ _ (qbl (jaa hb r0))).trans (((jaf hb).2 _ _ (qbl r0)).trans (f0 1 (by omega))); have z2 : w5.frozen? (ad (w.heap.size + 1) 2) = false := ((jaf aW).2 _ _ (qbl (jaa hb r0))).trans (((jaf hb).2 _ _ (qbl r0)).trans (f0 2 (by omega))); have z3 : w5.frozen? (ad (w.heap.size + 1) 3) = false := ((jaf aW).2 _ _ (qbl (jaa hb r0))).trans (((jaf hb).2 _ _ (qbl r0)).trans (f0 3 (by omega)))))
  all_goals
   go_wp2
   have aS : Bw w w4 := qtr ch hb
   have aj : Bw w w5 := qtr aS aW
   obtain ⟨u0, u1, u2, u3⟩ := jfj (v0 := iv xa) (v1 := iv xo) (v2 := iv xs) (v3 := .string xb) s0 s1 s2 s3
   exact bpr (v := .agg #[iv xa, iv xo, iv xs, .string xb]) (by simp [results, Tryz.results198, go_sem, u0, u1, u2, u3]) rfl ⟨by rw [HR.out]; rfl, (((aj.setCell (show w.heap.size <= w.heap.size + 1 by omega) _).setCell (show w.heap.size <= w.heap.size + 1 by omega) _).setCell (show w.heap.size <= w.heap.size + 1 by omega) _).setCell (show w.heap.size <= w.heap.size + 1 by omega) _⟩
end
end Go.Proofs.YtgiieknbckhofaaGreatDoor
