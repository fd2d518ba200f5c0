/- Packed. -/
import Derived.Test.YtgiieknbckhofaaGreatDoorTsPu
import Derived.Test.YtgiieknbckhofaaGreatDoorTbQu
set_option maxRecDepth 20000
set_option maxHeartbeats 20000000
set_option linter.unusedSimpArgs false
namespace Go.Proofs.YtgiieknbckhofaaGreatDoor
section
open Go.RowKit Go.Sort
theorem jgn (H : List HapD) (a : Option Addr) (ca : Nat) (w : World) (hA : Za w a 3 (H.map HapD.cs)) (hl : H.length <= 2000) (hH : ∀ h ∈ H, h.at_ <= 253402300799) :
  Cl 195 #[.slice a H.length ca] w fun e w' => e = .returned (.slice (some ⟨w.heap.size, 0, none⟩) H.length H.length) /\ Jc w' w.heap.size (sufM H) 0 /\ Bw w w' := by
 obtain ⟨i0, hi, aH, aI, aG⟩ := jwn
 obtain ⟨w1, dp, ai, du⟩ := run_make_full (P := Tryz.prog) w w.heap.size 217 2 i0 _ 1 Tryz.underlying217 hi aH aI .i64 .i64 H.length (by rw [aG]; omega) (by unfold maxLen; omega) (nlr _)
 have hR := jd3 ai
 rw [Nat.mul_one] at hR
 have hB : Bw w w1 := (brf _ _).grown du (nlr _) (fun k hk => by cases hk)
 have lh : Hid (∀ (k : Nat) (h : HapD), H[k]? = some h -> (sufM H)[k]? = some (min (ja0 (sufM H) (k + 1)) h.at_)) := fun k h hh => sufM_at hh
 have Ig : Hid (∀ k, k < H.length -> ∃ y, (sufM H)[k]? = some y) := fun k hk => ⟨_, lgg (by rw [jcg]; exact hk)⟩
 have yD : Hid (∀ k, ¬ k < H.length -> ja0 (sufM H) k = 253402300799) := fun k hk => jip (by rw [jcg]; omega)
 have HH := hid hH
 have tV : Jc w1 w.heap.size (sufM H) H.length := fun i t h1 h2 => by have := (lgs h2).1; rw [jcg] at this; omega
 clear hH
 generalize sufM H = E at *
 clear hi aH aI aG ai du
 go_enter Tryz.func195, Tryz.ntmps195
 go_wp2
 go_loopw [4] (fun s4 wr => ∃ m : Nat, m <= H.length /\ s4 = iv ((m : Int) - 1) /\ Jc wr w.heap.size E m /\ Zf wr w.heap.size H.length /\ Bw w wr) (fun s4 _ => (intOf s4 + 1).toNat)
 case atStart => exact ⟨H.length, nlr _, rfl, tV, hR, hB⟩
 case round =>
  clear hR hB dp tV
  obtain ⟨m, hm, mP, hL, hR, hB⟩ := hrel
  cases m with
  | zero =>
   subst mP
   go_wp2
   go_ret
   exact ⟨rfl, hL, hB⟩
  | succ k =>
   rw [show (((k + 1 : Nat) : Int) - 1) = (k : Int) by omega] at mP
   subst mP
   obtain ⟨x, hx⟩ : ∃ x, H[k]? = some x := ⟨_, lgg (by omega)⟩
   obtain ⟨b, o, rfl, hc⟩ := (hA.below hB).at (i := k) (r := x.cs) (by rw [lgm, hx]; rfl)
   have c0 : wr.cell? ⟨b, o + k * 3, none⟩ = some (iv x.at_) := hc 0 _ rfl
   have hE := lh.out k x hx
   have vN := HH.out x (lmg hx)
   obtain ⟨⟨u0, iu⟩, gn⟩ := hR k (by omega)
   have fe : (k : Int) < (H.length : Int) := by omega
   have cW := hR.set ⟨w.heap.size, k, none⟩ (iv x.at_)
   have aj : Bw w (wr.setCell ⟨w.heap.size, k, none⟩ (iv x.at_)) := hB.setCell (nlr _) _
   have k1 : (wr.setCell ⟨w.heap.size, k, none⟩ (iv x.at_)).cell? ⟨w.heap.size, k, none⟩ = some (iv x.at_) := wcs _ _ _ iu
   have kf : (wr.setCell ⟨w.heap.size, k, none⟩ (iv x.at_)).frozen? ⟨w.heap.size, k, none⟩ = false := by rw [World.frozen?_setCell]; exact gn
   by_cases iZ : k + 1 < H.length
   ·obtain ⟨y, hy⟩ := Ig.out (k + 1) iZ
    rw [jdp hy] at hE
    have cy : (wr.setCell ⟨w.heap.size, k, none⟩ (iv x.at_)).cell? ⟨w.heap.size, k + 1, none⟩ = some (iv y) := by
     rw [wco _ _ _ _ (by simp)]
     exact hL (k + 1) y (by omega) hy
    have oH : decide ((k : Int) + 1 < (H.length : Int)) = true := dte (by omega)
    have bU : (k : Int) + 1 < (H.length : Int) := by omega
    by_cases GX : y < x.at_
    ·have nY : E[k]? = some y := by rw [hE]; congr 1; omega
     have hd : decide (y < x.at_) = true := dte GX
     have og : Jc ((wr.setCell ⟨w.heap.size, k, none⟩ (iv x.at_)).drew.setCell ⟨w.heap.size, k, none⟩ (iv y)) w.heap.size E k := fun i u hi hu => by
      by_cases e : i = k
      ·subst e
       rw [nY] at hu; injection hu with hu; subst hu
       exact wcs _ _ _ k1
      ·rw [wco _ _ _ _ (by first | (simp; done) | (simp; omega))]
       show (wr.setCell ⟨w.heap.size, k, none⟩ (iv x.at_)).cell? ⟨w.heap.size, i, none⟩ = _
       rw [wco _ _ _ _ (by first | (simp; done) | (simp; omega))]
       exact hL i u (by omega) hu
     have li := hid og
     have aN : Zf ((wr.setCell ⟨w.heap.size, k, none⟩ (iv x.at_)).drew.setCell ⟨w.heap.size, k, none⟩ (iv y)) w.heap.size H.length := Zf.set (w := (wr.setCell ⟨w.heap.size, k, none⟩ (iv x.at_)).drew) cW _ _
     clear hc hx hE nY og hL hR hy
     go_wp2_with fail
     go_quiet (fail)
     go_wp2
     go_roundw
     case rel => exact ⟨k, by omega, by rfl, li.out, aN, (below_drewN aj _).setCell (nlr _) _⟩
     case measure => simp [intOf]
    ·have nY : E[k]? = some x.at_ := by rw [hE]; congr 1; omega
     have hd : decide (y < x.at_) = false := dfe GX
     have li : Hid (Jc (wr.setCell ⟨w.heap.size, k, none⟩ (iv x.at_)).drew w.heap.size E k) := (hL.set hR (by omega) nY).below (jac _)
     have aN : Zf (wr.setCell ⟨w.heap.size, k, none⟩ (iv x.at_)).drew w.heap.size H.length := cW
     clear hc hx hE nY hL hR hy
     go_wp2_with fail
     go_quiet (fail)
     go_wp2
     go_roundw
     case rel => exact ⟨k, by omega, by rfl, li.out, aN, below_drewN aj _⟩
     case measure => simp [intOf]
   ·have nY : E[k]? = some x.at_ := by rw [hE, yD.out (k + 1) iZ]; congr 1; omega
    have oH : decide ((k : Int) + 1 < (H.length : Int)) = false := dfe (by omega)
    have li : Hid (Jc (wr.setCell ⟨w.heap.size, k, none⟩ (iv x.at_)).drew w.heap.size E k) := (hL.set hR (by omega) nY).below (jac _)
    have aN : Zf (wr.setCell ⟨w.heap.size, k, none⟩ (iv x.at_)).drew w.heap.size H.length := cW
    clear hc hx hE nY hL hR
    go_wp2_with fail
    go_quiet (fail)
    go_wp2
    go_roundw
    case rel => exact ⟨k, by omega, by rfl, li.out, aN, below_drewN aj _⟩
    case measure => simp [intOf]
end
section
open Go.RowKit Go.Sort
def endS (e : EraD) (H : List HapD) (b : Int) : Int := if e.until_ = 253402300799 then 253402300799 else endE e H b
theorem jpq (e : EraD) (H : List HapD) (a : Option Addr) (ca : Nat) (b : Int) (w : World) (hA : Za w a 3 (H.map HapD.cs)) (hn : H.length <= 2000) (hf : e.format.size <= 8000) (hl : ∀ t, (jas e H t).letter.size <= 8000) (h1 : -62135596800 <= e.until_) (h2 : e.until_ <= 253402300799) (h3 : -86400 <= e.offset) (h4 : e.offset <= 86400) (h5 : ∀ t, -7200 <= (jas e H t).save /\ (jas e H t).save <= 7200) (hb : b <= 253402300799) :
  Cl 193 #[e.v, .slice a H.length ca, iv b] w fun r W' => r = .returned (iv (endS e H b)) /\ Bw w W' := by
 have ag := qal w (.cells #[iv e.offset, .string e.rules, iv e.save, .string e.format, iv e.until_, .string e.of] 178)
 have gM := fun x y w => jgq x y w
 have Bv := fun x y w => jgp x y w
 by_cases hu : e.until_ = 253402300799
 ·have HR : Hid (endS e H b = 253402300799) := if_pos hu
  unfold EraD.v
  rw [hu] at ag ⊢
  go_enter Tryz.func193, Tryz.ntmps193
  go_wp2
  go_ret
  exact ⟨ret_int HR.out.symm, ag⟩
 have HE : Hid (endS e H b = endE e H b) := if_neg hu
 have PS : (e.until_ == 253402300799) = false := by simpa using hu
 cases hs : (e.of.toList == [115])
 ·cases hw : (e.of.toList == [119])
  ·have HR : Hid (endS e H b = min 253402300799 (max b e.until_)) := by simp only [Hid]; rw [HE.out]; simp only [endE, endU]; rw [hs, hw]; simp only [Bool.false_eq_true, if_false]; omega
   unfold EraD.v
   go_enter Tryz.func193, Tryz.ntmps193
   go_wp2_with fail
   refine (gM _ _ _).mono ?_
   rintro q w1 ⟨rfl, ew⟩
   have ew := ew.symm
   subst ew
   go_wp2_with fail
   refine (Bv _ _ _).mono ?_
   rintro q w1 ⟨rfl, ew⟩
   have ew := ew.symm
   subst ew
   go_wp2
   go_ret
   exact ⟨ret_int HR.out.symm, ag⟩
  ·have HR : Hid (endS e H b = min 253402300799 (max b (e.until_ - (turnE e H (e.until_ - e.offset - 1)).offset))) := by
    simp only [Hid]; rw [HE.out]; simp only [endE, endU, turnE, jdo]; rw [hs, hw]; simp only [Bool.false_eq_true, if_false, if_true]; omega
   have fI := fun w (h : Za w a 3 (H.map HapD.cs)) => jgl e H a ca (e.until_ - e.offset - 1) w h hn hf hl h3 h4 h5
   have L9 : -100000 <= (turnE e H (e.until_ - e.offset - 1)).offset /\ (turnE e H (e.until_ - e.offset - 1)).offset <= 100000 := by
    have := h5 (e.until_ - e.offset - 1)
    simp only [turnE, jdo]
    omega
   generalize turnE e H (e.until_ - e.offset - 1) = X at *
   obtain ⟨xa, xo, xs, xb⟩ := X
   simp only [TurnD.v, EraD.v] at fI
   simp only at HR L9
   have qB : ∀ w, (Instr.field 220 (.agg #[iv xa, iv xo, iv xs, .string xb]) 1).run Tryz.prog w = .ok (iv xo) w := fun _ => by kernel_rfl
   obtain ⟨k0, k1, k2, k3, k4, k5⟩ : (fun z : World => z.cell? ⟨w.heap.size, 0, none⟩ = some (iv e.offset) /\ z.cell? ⟨w.heap.size, 1, none⟩ = some (.string e.rules) /\ z.cell? ⟨w.heap.size, 2, none⟩ = some (iv e.save) /\ z.cell? ⟨w.heap.size, 3, none⟩ = some (.string e.format) /\ z.cell? ⟨w.heap.size, 4, none⟩ = some (iv e.until_) /\ z.cell? ⟨w.heap.size, 5, none⟩ = some (.string e.of)) (w.alloc (.cells #[iv e.offset, .string e.rules, iv e.save, .string e.format, iv e.until_, .string e.of] 178)) := by simp [go_sem]
   unfold EraD.v
   go_enter Tryz.func193, Tryz.ntmps193
   go_wp2_with fail
   generalize (w.alloc (.cells #[iv e.offset, .string e.rules, iv e.save, .string e.format, iv e.until_, .string e.of] 178)) = W0 at *
   have ch : Bw w W0.drew := ag.trans ((jac W0).mono ag.size)
   have AS := hA.below ch
   have Lx : IntKind.i64.wrap (e.until_ - e.offset) = e.until_ - e.offset := by rw [IntKind.wrap_i64]; omega
   have Ly : IntKind.i64.wrap (e.until_ - e.offset - 1) = e.until_ - e.offset - 1 := by rw [IntKind.wrap_i64]; omega
   have Lz : IntKind.i64.wrap (e.until_ - xo) = e.until_ - xo := by rw [IntKind.wrap_i64]; omega
   go_region_held3 (fun w' => w'.cell? ⟨w.heap.size, 0, none⟩ = some (iv e.offset) /\ w'.cell? ⟨w.heap.size, 1, none⟩ = some (.string e.rules) /\ w'.cell? ⟨w.heap.size, 2, none⟩ = some (iv e.save) /\ w'.cell? ⟨w.heap.size, 3, none⟩ = some (.string e.format) /\ w'.cell? ⟨w.heap.size, 4, none⟩ = some (iv e.until_) /\ w'.cell? ⟨w.heap.size, 5, none⟩ = some (.string e.of)) (go_keep) ((go_at_call 198; refine (fI _ AS).mono ?_; rintro q w4 ⟨rfl, aD⟩; have q0 := jaa aD k0; have q1 := jaa aD k1; have q2 := jaa aD k2; have q3 := jaa aD k3; have q4 := jaa aD k4; have q5 := jaa aD k5))
   all_goals
    have aS : Bw w w4 := qtr ch aD
    go_wp2_with fail
    refine (gM _ _ _).mono ?_
    rintro q w5 ⟨rfl, oQ⟩
    have oQ := oQ.symm
    subst oQ
    go_wp2_with fail
    refine (Bv _ _ _).mono ?_
    rintro q w6 ⟨rfl, qP⟩
    have qP := qP.symm
    subst qP
    go_wp2
    go_ret
    exact ⟨ret_int HR.out.symm, aS⟩
 ·have HR : Hid (endS e H b = min 253402300799 (max b (e.until_ - e.offset))) := by simp only [Hid]; rw [HE.out]; simp only [endE, endU]; rw [hs]; simp only [if_true]; omega
  unfold EraD.v
  go_enter Tryz.func193, Tryz.ntmps193
  go_wp2_with fail
  refine (gM _ _ _).mono ?_
  rintro q w1 ⟨rfl, ew⟩
  have ew := ew.symm
  subst ew
  go_wp2_with fail
  refine (Bv _ _ _).mono ?_
  rintro q w1 ⟨rfl, ew⟩
  have ew := ew.symm
  subst ew
  go_wp2
  go_ret
  exact ⟨ret_int HR.out.symm, ag⟩
end
section
open Go.RowKit Go.Sort
structure AddP (T : List TurnD) (x : TurnD) (base : Nat) (v : Value) (w : World) (q : Ending) (W' : World) : Prop where
 ex : ∃ v', q = .returned (.agg #[v']) /\ Zg W' base v' (addT T x) /\ Fr (fun b => v.ownBlock = some b) w W' /\ (v'.ownBlock = v.ownBlock \/ ∃ g, v'.ownBlock = some g /\ w.heap.size <= g)
theorem Fr.of_below_base {S : Nat -> Prop} {w w' : World} (h : Bw w w') : Fr S w w' := Fr.of_below h
theorem jcm {w1 : World} {base : Nat} {v : Value} {T : List TurnD} {b0 o0 : Nat} {u0 : Value} (h : Zg w1 base v T) (az : v.ownBlock ≠ some b0) : Zg (w1.setCell ⟨b0, o0, none⟩ u0) base v T := World.ownsRow.kept h (jbw w1 b0 o0 u0) (by cases hv : v.ownBlock with
 | none => exact .inl rfl
 | some g => exact .inr (by rw [<- hv]; exact az))
theorem j1i {S : Nat -> Prop} {w w1 : World} {b o : Nat} {u : Value} (h : Fr S w w1) (hb : w.heap.size <= b) : Fr S w (w1.setCell ⟨b, o, none⟩ u) := ⟨h.os, h.tape, h.output, by simpa using h.size, fun k hk hs => by
 rw [heap_setCell_other w1 ⟨b, o, none⟩ k u (fun e => by simp at e; omega)]
 exact h.block k hk hs⟩
theorem jpr (T : List TurnD) (x : TurnD) (v : Value) (base : Nat) (w : World) (hT : Zg w base v T) (hb : base <= w.heap.size) (hl : T.length <= 100000) :
  Cl 196 #[.agg #[v], x.v] w fun q W' => AddP T x base v w q W' := by
 obtain ⟨i0, hi, aH, aI, aG⟩ := info_parts jog
 obtain ⟨A, cap, jT, hS⟩ := hT.seq
 obtain ⟨n, hn⟩ := qeb T.length
 rw [hn] at jT hl
 subst jT
 have lC : w.ownsRow base 220 4 (.slice A n cap) n (T.map TurnD.cs).flatten := by unfold Zg at hT; rw [hn] at hT; exact hT
 have ag := ((qal w (.cells #[.slice A n cap] 183)).alloc (by simp) (.cells #[iv x.at_, iv x.offset, iv x.save, .string x.abbr] 220)).alloc (by simp; omega) (.cells #[nS] 183)
 have hlt : ∀ g, (Value.slice A n cap).ownBlock = some g -> g < w.heap.size := fun g hg => (World.ownsRow.lt hT g hg).2
 have di : Zg (((w.alloc (.cells #[.slice A n cap] 183)).alloc (.cells #[iv x.at_, iv x.offset, iv x.save, .string x.abbr] 220)).alloc (.cells #[nS] 183)) base (.slice A n cap) T := woa (woa (woa hT _) _) _
 have dT : Fr (fun b => (Value.slice A n cap).ownBlock = some b) w (((w.alloc (.cells #[.slice A n cap] 183)).alloc (.cells #[iv x.at_, iv x.offset, iv x.save, .string x.abbr] 220)).alloc (.cells #[nS] 183)) := Fr.of_below ag
 obtain ⟨r0, b0, p0, p1, p2, p3, Ay, Ar⟩ : (fun z : World => z.cell? ⟨w.heap.size + 1 + 1, 0, none⟩ = some nS /\ z.cell? ⟨w.heap.size, 0, none⟩ = some (.slice A n cap) /\ z.cell? ⟨w.heap.size + 1, 0, none⟩ = some (iv x.at_) /\ z.cell? ⟨w.heap.size + 1, 1, none⟩ = some (iv x.offset) /\ z.cell? ⟨w.heap.size + 1, 2, none⟩ = some (iv x.save) /\ z.cell? ⟨w.heap.size + 1, 3, none⟩ = some (.string x.abbr) /\ z.frozen? ⟨w.heap.size + 1 + 1, 0, none⟩ = false /\ z.frozen? ⟨w.heap.size, 0, none⟩ = false) (((w.alloc (.cells #[.slice A n cap] 183)).alloc (.cells #[iv x.at_, iv x.offset, iv x.save, .string x.abbr] 220)).alloc (.cells #[nS] 183)) := by simp [go_sem]
 have dK : (((w.alloc (.cells #[.slice A n cap] 183)).alloc (.cells #[iv x.at_, iv x.offset, iv x.save, .string x.abbr] 220)).alloc (.cells #[nS] 183)).heap.size = w.heap.size + 1 + 1 + 1 := by simp
 have kB : ∀ (g1 aE : Nat) (w1 wp : World) (o : Obj), Bw w wp -> w.heap.size <= wp.heap.size -> (((w.alloc (.cells #[.slice A n cap] 183)).alloc (.cells #[iv x.at_, iv x.offset, iv x.save, .string x.abbr] 220)).alloc (.cells #[nS] 183)).heap.size <= wp.heap.size -> (∀ bb oo vv, (((w.alloc (.cells #[.slice A n cap] 183)).alloc (.cells #[iv x.at_, iv x.offset, iv x.save, .string x.abbr] 220)).alloc (.cells #[nS] 183)).cell? ⟨bb, oo, none⟩ = some vv -> wp.cell? ⟨bb, oo, none⟩ = some vv) -> (∀ bb oo, bb < (((w.alloc (.cells #[.slice A n cap] 183)).alloc (.cells #[iv x.at_, iv x.offset, iv x.save, .string x.abbr] 220)).alloc (.cells #[nS] 183)).heap.size -> wp.frozen? ⟨bb, oo, none⟩ = (((w.alloc (.cells #[.slice A n cap] 183)).alloc (.cells #[iv x.at_, iv x.offset, iv x.save, .string x.abbr] 220)).alloc (.cells #[nS] 183)).frozen? ⟨bb, oo, none⟩) -> w1.ownsRow base 220 4 (.slice (some ⟨g1, 0, none⟩) (n + 1) aE) (n + 1) ((T.map TurnD.cs).flatten ++ [iv x.at_, iv x.offset, iv x.save, .string x.abbr]) -> (wp.alloc o).grownBy w1 (Value.slice A n cap).ownBlock -> ((Value.slice A n cap).ownBlock = some g1 \/ w.heap.size + 1 + 1 + 1 <= g1) -> addT T x = T ++ [x] ->
   AddP T x base (.slice A n cap) w (.returned (.agg #[.slice (some ⟨g1, 0, none⟩) (n + 1) aE])) ((w1.setCell ⟨w.heap.size, 0, none⟩ (.slice (some ⟨g1, 0, none⟩) (n + 1) aE)).setCell ⟨w.heap.size + 1 + 1, 0, none⟩ (.slice (some ⟨g1, 0, none⟩) (n + 1) aE)) /\ (w1.cell? ⟨w.heap.size, 0, none⟩ = some (.slice A n cap) /\ w1.cell? ⟨w.heap.size + 1 + 1, 0, none⟩ = some nS) /\ (w1.frozen? ⟨w.heap.size, 0, none⟩ = false /\ w1.frozen? ⟨w.heap.size + 1 + 1, 0, none⟩ = false) := fun g1 aE w1 wp o K9 PQ jB xV qC ai du bF hadd => by
  have GF : ∀ k, w.heap.size <= k -> some k ≠ (Value.slice A n cap).ownBlock := fun k hk e => by have := hlt k e.symm; omega
  have hc : ∀ (k : Nat) oo vv, w.heap.size <= k -> (((w.alloc (.cells #[.slice A n cap] 183)).alloc (.cells #[iv x.at_, iv x.offset, iv x.save, .string x.abbr] 220)).alloc (.cells #[nS] 183)).cell? ⟨k, oo, none⟩ = some vv -> w1.cell? ⟨k, oo, none⟩ = some vv := fun k oo vv hk h => du.cell (jaa (qal wp _) (xV k oo vv h)) (GF k hk)
  have cU : g1 ≠ w.heap.size /\ g1 ≠ w.heap.size + 1 + 1 := by
   rcases bF with h | h
   ·have := hlt g1 h; omega
   ·omega
  have C6 : ∀ k, w.heap.size <= k -> k < (((w.alloc (.cells #[.slice A n cap] 183)).alloc (.cells #[iv x.at_, iv x.offset, iv x.save, .string x.abbr] 220)).alloc (.cells #[nS] 183)).heap.size -> w1.frozen? ⟨k, 0, none⟩ = (((w.alloc (.cells #[.slice A n cap] 183)).alloc (.cells #[iv x.at_, iv x.offset, iv x.save, .string x.abbr] 220)).alloc (.cells #[nS] 183)).frozen? ⟨k, 0, none⟩ := fun k hk eU => (du.frozen_far ⟨k, 0, none⟩ (by simp; omega) (GF k hk)).trans (((jaf (qal wp o)).2 _ _ (by omega)).trans (qC k 0 eU))
  have hO : Zg w1 base (.slice (some ⟨g1, 0, none⟩) (n + 1) aE) (T ++ [x]) := Zg.add (by rw [hn]; exact ai)
  refine ⟨⟨_, rfl, ?_, ?_, ?_⟩, ⟨hc _ 0 _ (nlr _) b0, hc _ 0 _ (by omega) r0⟩, (C6 _ (nlr _) (by rw [dK]; omega)).trans Ar, (C6 _ (by omega) (by rw [dK]; omega)).trans Ay⟩
  ·rw [hadd]
   exact jcm (jcm hO (by simp [Value.ownBlock]; omega)) (by simp [Value.ownBlock]; omega)
  ·exact j1i (j1i (((Fr.of_below_base K9).trans (Fr.of_below (qal wp _))).trans (Fr.of_grown du)) (nlr _)) (by omega)
  ·rcases bF with h | h
   ·exact .inl h.symm
   ·exact .inr ⟨g1, rfl, by omega⟩
 cases hL : T.getLast? with
 | none =>
  have fI : T = [] := by simpa using hL
  have mH : n = 0 := by rw [<- hn, fI]; rfl
  have hadd : addT T x = T ++ [x] := by rw [fI]; rfl
  subst mH
  have dt : ((((w.alloc (.cells #[.slice A 0 cap] 183)).alloc (.cells #[iv x.at_, iv x.offset, iv x.save, .string x.abbr] 220)).alloc (.cells #[nS] 183)).alloc (.cells #[iv x.at_, iv x.offset, iv x.save, .string x.abbr] 220)).ownsRow base 220 4 (.slice A 0 cap) 0 (T.map TurnD.cs).flatten := woa (woa (woa (woa lC _) _) _) _
  have jU : Hid _ := fun g1 aE w1 => kB g1 aE w1 (((w.alloc (.cells #[.slice A 0 cap] 183)).alloc (.cells #[iv x.at_, iv x.offset, iv x.save, .string x.abbr] 220)).alloc (.cells #[nS] 183)) (.cells #[iv x.at_, iv x.offset, iv x.save, .string x.abbr] 220) ag ag.size (nlr _) (fun _ _ _ h => h) (fun _ _ _ => rfl)
  clear hL fI kB di dT lC hS
  unfold TurnD.v
  go_enter Tryz.func196, Tryz.ntmps196
  go_wp2_with (first
   | (at_builtin; refine wpList_append_lies _ rfl _ _ 181 rfl base 220 i0 (.agg #[iv 0, iv 0, iv 0, .string ⟨#[]⟩]) 4 40 Tryz.underlying181 hi aH aI aG rfl (by decide) (.slice A 0 cap) 0 (T.map TurnD.cs).flatten rfl dt ⟨w.heap.size + 1 + 1 + 1, 0, none⟩ 1 1 [iv x.at_, iv x.offset, iv x.save, .string x.abbr] rfl rfl ?c1 ?c2 (by decide) ?c3 ?c4 ?c5 _ rfl ?_)
   | fail)
  case c1 => simpa using jag (((w.alloc (.cells #[.slice A 0 cap] 183)).alloc (.cells #[iv x.at_, iv x.offset, iv x.save, .string x.abbr] 220)).alloc (.cells #[nS] 183)) [iv x.at_, iv x.offset, iv x.save, .string x.abbr] 220
  case c2 => intro u hu; simp at hu; rcases hu with rfl | rfl | rfl | rfl <;> rfl
  case c3 => unfold maxLen; simp
  case c4 => simp
  case c5 => simp; omega
  intro g1 aE w1 aw af bF hlt1
  obtain ⟨hP, ⟨q0, q1⟩, z0, z1⟩ := jU.out g1 aE w1 aw af (bF.imp id fun h => by rw [h]; omega) hadd
  have HP : Hid _ := hP
  have t0 : (w1.setCell ⟨w.heap.size, 0, none⟩ (.slice (some ⟨g1, 0, none⟩) (0 + 1) aE)).cell? ⟨w.heap.size, 0, none⟩ = some (.slice (some ⟨g1, 0, none⟩) (0 + 1) aE) := wcs _ _ _ q0
  have t2 : (w1.setCell ⟨w.heap.size, 0, none⟩ (.slice (some ⟨g1, 0, none⟩) (0 + 1) aE)).cell? ⟨w.heap.size + 1 + 1, 0, none⟩ = some nS := by rw [wco _ _ _ _ (by simp)]; exact q1
  have t1 : ((w1.setCell ⟨w.heap.size, 0, none⟩ (.slice (some ⟨g1, 0, none⟩) (0 + 1) aE)).setCell ⟨w.heap.size + 1 + 1, 0, none⟩ (.slice (some ⟨g1, 0, none⟩) (0 + 1) aE)).cell? ⟨w.heap.size + 1 + 1, 0, none⟩ = some (.slice (some ⟨g1, 0, none⟩) (0 + 1) aE) := wcs _ _ _ t2
  clear aw af bF hlt1 hP jU dt r0 b0 p0 p1 p2 p3 Ay Ar
  go_wp2
  exact bpr (v := .agg #[.slice (some ⟨g1, 0, none⟩) (0 + 1) aE]) (by simp [results, Tryz.results196, go_sem, t1]) rfl HP.out
 | some y =>
  obtain ⟨m, hm⟩ : ∃ m, n = m + 1 := by
   cases T with
   | nil => simp at hL
   | cons z Z => exact ⟨Z.length, by rw [<- hn]; rfl⟩
  have hy : T[m]? = some y := by rw [List.getLast?_eq_getElem?, hn, hm] at hL; exact hL
  subst hm
  obtain ⟨b, o, ha, hc⟩ := hS.at (i := m) (r := y.cs) (by rw [lgm, hy]; rfl)
  subst ha
  have c0 : (((w.alloc (.cells #[.slice (some ⟨b, o, none⟩) (m + 1) cap] 183)).alloc (.cells #[iv x.at_, iv x.offset, iv x.save, .string x.abbr] 220)).alloc (.cells #[nS] 183)).cell? ⟨b, o + m * 4, none⟩ = some (iv y.at_) := jaa ag (hc 0 _ rfl)
  have c1 := jaa ag (hc 1 _ rfl)
  have c2 := jaa ag (hc 2 _ rfl)
  have c3 := jaa ag (hc 3 _ rfl)
  have gm := fun w => jsi x.at_ y.offset y.save x.offset x.save y.abbr x.abbr w
  have C9 := jk2
  have e1 : jd5 ⟨x.at_, y.offset, y.save, y.abbr⟩ ⟨x.at_, x.offset, x.save, x.abbr⟩ = jd5 y x := rfl
  rw [e1] at gm
  have lH : (m : Int) < ((m + 1 : Nat) : Int) := by omega
  have uY := (brf _ (((w.alloc (.cells #[.slice (some ⟨b, o, none⟩) (m + 1) cap] 183)).alloc (.cells #[iv x.at_, iv x.offset, iv x.save, .string x.abbr] 220)).alloc (.cells #[nS] 183))).alloc (nlr _) (.cells #[iv x.at_, iv y.offset, iv y.save, .string y.abbr] 220)
  clear hc
  cases hl : jd5 y x
  ·have hadd : addT T x = T ++ [x] := jmv hL hl
   rw [hl] at gm
   have dt : (((((w.alloc (.cells #[.slice (some ⟨b, o, none⟩) (m + 1) cap] 183)).alloc (.cells #[iv x.at_, iv x.offset, iv x.save, .string x.abbr] 220)).alloc (.cells #[nS] 183)).alloc (.cells #[iv x.at_, iv y.offset, iv y.save, .string y.abbr] 220)).alloc (.cells #[iv x.at_, iv x.offset, iv x.save, .string x.abbr] 220)).ownsRow base 220 4 (.slice (some ⟨b, o, none⟩) (m + 1) cap) (m + 1) (T.map TurnD.cs).flatten := woa (woa (woa (woa (woa lC _) _) _) _) _
   have jU : Hid _ := fun g1 aE w1 => kB g1 aE w1 ((((w.alloc (.cells #[.slice (some ⟨b, o, none⟩) (m + 1) cap] 183)).alloc (.cells #[iv x.at_, iv x.offset, iv x.save, .string x.abbr] 220)).alloc (.cells #[nS] 183)).alloc (.cells #[iv x.at_, iv y.offset, iv y.save, .string y.abbr] 220)) (.cells #[iv x.at_, iv x.offset, iv x.save, .string x.abbr] 220) (qtr ag uY) (Nat.le_trans ag.size uY.size) uY.size (fun _ _ _ h => jaa uY h) (fun _ _ h => (jaf uY).2 _ _ h)
   clear hl hL e1 hS hy kB di dT lC
   unfold TurnD.v
   go_enter Tryz.func196, Tryz.ntmps196
   go_wp2_with (first
    | (at_builtin; refine wpList_append_lies _ rfl _ _ 181 rfl base 220 i0 (.agg #[iv 0, iv 0, iv 0, .string ⟨#[]⟩]) 4 40 Tryz.underlying181 hi aH aI aG rfl (by decide) (.slice (some ⟨b, o, none⟩) (m + 1) cap) (m + 1) (T.map TurnD.cs).flatten rfl dt ⟨w.heap.size + 1 + 1 + 1 + 1, 0, none⟩ 1 1 [iv x.at_, iv x.offset, iv x.save, .string x.abbr] rfl rfl ?d1 ?d2 (by decide) ?d3 ?d4 ?d5 _ rfl ?_)
    | fail)
   case d1 => simpa using jag ((((w.alloc (.cells #[.slice (some ⟨b, o, none⟩) (m + 1) cap] 183)).alloc (.cells #[iv x.at_, iv x.offset, iv x.save, .string x.abbr] 220)).alloc (.cells #[nS] 183)).alloc (.cells #[iv x.at_, iv y.offset, iv y.save, .string y.abbr] 220)) [iv x.at_, iv x.offset, iv x.save, .string x.abbr] 220
   case d2 => intro u hu; simp at hu; rcases hu with rfl | rfl | rfl | rfl <;> rfl
   case d3 => unfold maxLen; omega
   case d4 => omega
   case d5 => simp; omega
   intro g1 aE w1 aw af bF hlt1
   obtain ⟨hP, ⟨q0, q1⟩, z0, z1⟩ := jU.out g1 aE w1 aw af (bF.imp id fun h => by rw [h]; omega) hadd
   have HP : Hid _ := hP
   have t0 : (w1.setCell ⟨w.heap.size, 0, none⟩ (.slice (some ⟨g1, 0, none⟩) (m + 1 + 1) aE)).cell? ⟨w.heap.size, 0, none⟩ = some (.slice (some ⟨g1, 0, none⟩) (m + 1 + 1) aE) := wcs _ _ _ q0
   have t2 : (w1.setCell ⟨w.heap.size, 0, none⟩ (.slice (some ⟨g1, 0, none⟩) (m + 1 + 1) aE)).cell? ⟨w.heap.size + 1 + 1, 0, none⟩ = some nS := by rw [wco _ _ _ _ (by simp)]; exact q1
   have t1 : ((w1.setCell ⟨w.heap.size, 0, none⟩ (.slice (some ⟨g1, 0, none⟩) (m + 1 + 1) aE)).setCell ⟨w.heap.size + 1 + 1, 0, none⟩ (.slice (some ⟨g1, 0, none⟩) (m + 1 + 1) aE)).cell? ⟨w.heap.size + 1 + 1, 0, none⟩ = some (.slice (some ⟨g1, 0, none⟩) (m + 1 + 1) aE) := wcs _ _ _ t2
   clear aw af bF hlt1 hP jU dt r0 b0 p0 p1 p2 p3 Ay Ar gm c0 c1 c2 c3
   go_wp2
   exact bpr (v := .agg #[.slice (some ⟨g1, 0, none⟩) (m + 1 + 1) aE]) (by simp [results, Tryz.results196, go_sem, t1]) rfl HP.out
  ·have hadd : addT T x = T := jed hL hl
   rw [hl] at gm
   have dY : Zg ((((w.alloc (.cells #[.slice (some ⟨b, o, none⟩) (m + 1) cap] 183)).alloc (.cells #[iv x.at_, iv x.offset, iv x.save, .string x.abbr] 220)).alloc (.cells #[.slice (some ⟨b, o, none⟩) (m + 1) cap] 183)).alloc (.cells #[iv x.at_, iv y.offset, iv y.save, .string y.abbr] 220)) base (.slice (some ⟨b, o, none⟩) (m + 1) cap) T := woa (woa (woa (woa hT _) _) _) _
   have bY : Fr (fun tC => (Value.slice (some ⟨b, o, none⟩) (m + 1) cap).ownBlock = some tC) w ((((w.alloc (.cells #[.slice (some ⟨b, o, none⟩) (m + 1) cap] 183)).alloc (.cells #[iv x.at_, iv x.offset, iv x.save, .string x.abbr] 220)).alloc (.cells #[.slice (some ⟨b, o, none⟩) (m + 1) cap] 183)).alloc (.cells #[iv x.at_, iv y.offset, iv y.save, .string y.abbr] 220)) := Fr.of_below (((((qal w _).alloc (by simp) _).alloc (by simp; omega) _)).alloc (by simp; omega) _)
   have HP : Hid (AddP T x base (.slice (some ⟨b, o, none⟩) (m + 1) cap) w (.returned (.agg #[.slice (some ⟨b, o, none⟩) (m + 1) cap])) ((((w.alloc (.cells #[.slice (some ⟨b, o, none⟩) (m + 1) cap] 183)).alloc (.cells #[iv x.at_, iv x.offset, iv x.save, .string x.abbr] 220)).alloc (.cells #[.slice (some ⟨b, o, none⟩) (m + 1) cap] 183)).alloc (.cells #[iv x.at_, iv y.offset, iv y.save, .string y.abbr] 220))) := ⟨_, rfl, by rw [hadd]; exact dY, bY, .inl rfl⟩
   clear hl hL e1 hS hy kB di dT lC dY bY
   unfold TurnD.v
   go_enter Tryz.func196, Tryz.ntmps196
   go_wp2
   exact bpr (v := .agg #[.slice (some ⟨b, o, none⟩) (m + 1) cap]) (by simp [results, Tryz.results196, go_sem]) rfl HP.out
end
end Go.Proofs.YtgiieknbckhofaaGreatDoor
